import Derived.Test.YtcjgmiilfjjbcaaGreatDoorSp0
import Derived.Test.YtcjgmiilfjjbcaaGreatDoorSrI
import Derived.Test.YtcjgmiilfjjbcaaGreatDoorSrN
import Derived.Deep.RegionHeld3
import Derived.Test.YtcjgmiilfjjbcaaGreatDoorDu9
import Derived.Laws.AppendOwn
namespace Go.Proofs.YtcjgmiilfjjbcaaGreatDoor
open Go.RowKit

def fld22P : List (List UInt8) := (stT.drop 1).map (·.2)
theorem fld22P_len : fld22P.length = 22 := rfl
set_option maxHeartbeats 4000000 in
set_option maxRecDepth 100000 in
theorem refFields23P (k : Nat) (h0 : 1 ≤ k) (h1 : k ≤ 22) (w : World) : Calls Tryz.prog 50 #[.int .i64 (k : Nat)] w fun en w' => en = .returned (.string (tstr (fds (k : Nat)))) ∧ w.grownBy w' none := by
  have HW : Hid (∀ i : Nat, i < 22 → fds ((i : Int) + 1) = fld22P.getD i []) := fun i hi => by
    have : ∀ i : Fin 22, fds ((i.1 : Int) + 1) = fld22P.getD i.1 [] := by decide
    exact this ⟨i, hi⟩
  have HC : Hid (∀ (W : World) (i : Nat), i < 22 → (W.alloc (.cells (fld22P.map fun T => Value.string (tstr T)).toArray 9)).cell? ⟨W.heap.size, i, none⟩ = some (.string (tstr (fld22P.getD i [])))) := fun W i hi => by
    apply cell_heapS (heap_at0S W _ _)
    have hl : i < fld22P.length := by rw [fld22P_len]; exact hi
    simp [List.getD, List.getElem?_eq_getElem hl]
  have G1 := hid_intro (World.grownBy_alloc w (.cells (fld22P.map fun T => Value.string (tstr T)).toArray 9) none)
  obtain ⟨i, hki⟩ : ∃ i : Nat, k = i + 1 := ⟨k - 1, by omega⟩
  have hi : i < 22 := by omega
  have hke : (k : Int) = (i : Int) + 1 := by omega
  rw [hke, HW.out i hi]
  have c0 := HC.out w i hi
  have hiz : (i : Int) < 22 := by omega
  have hiz0 : (0 : Int) ≤ (i : Int) := by omega
  have hsub : (i : Int) + 1 - 1 = (i : Int) := by omega
  have hww : IntKind.i64.wrap ((i : Int) + 1 - 1) = (i : Int) := by rw [hsub]; exact wrap_small _ (by omega) (by omega)
  clear HW HC hki hke h0 h1
  go_enter Tryz.func50, Tryz.ntmps50
  have heq : (fld22P.map fun T => Value.string (tstr T)).toArray = #[.string ⟨#[]⟩, .string ⟨#[65]⟩, .string ⟨#[75, 86]⟩, .string ⟨#[75]⟩, .string ⟨#[75]⟩, .string ⟨#[75, 72, 65]⟩, .string ⟨#[]⟩, .string ⟨#[]⟩, .string ⟨#[]⟩, .string ⟨#[65, 75]⟩, .string ⟨#[65, 75, 72, 66]⟩, .string ⟨#[65, 66]⟩, .string ⟨#[65, 75]⟩, .string ⟨#[65]⟩, .string ⟨#[65]⟩, .string ⟨#[70]⟩, .string ⟨#[65, 66, 67]⟩, .string ⟨#[]⟩, .string ⟨#[65, 66]⟩, .string ⟨#[]⟩, .string ⟨#[]⟩, .string ⟨#[65]⟩] := rfl
  rw [heq] at c0 G1
  clear heq
  go_wp2
  go_ret
  exact ⟨rfl, G1.out⟩
theorem cut10 (q : Nat) (h : q < 10) : (⟨#[48, 49, 50, 51, 52, 53, 54, 55, 56, 57]⟩ : ByteArray).extract q (q + 1) = tstr (Lib.decDigits q) := by
  rw [dec_small h]
  have : ∀ q : Fin 10, ((⟨#[48, 49, 50, 51, 52, 53, 54, 55, 56, 57]⟩ : ByteArray).extract q.1 (q.1 + 1)).data = (tstr [UInt8.ofNat (48 + q.1)]).data := by decide +kernel
  exact ByteArray.ext (this ⟨q, h⟩)
theorem p10 : (10 : Nat) ^ (9 + 1) = 10000000000 := by decide
theorem fds_len (k : Int) : (fds k).length ≤ 4 := by
  unfold fds
  have : ∀ i : Nat, (stT.getD i ([], [])).2.length ≤ 4 := fun i => by
    by_cases hi : i < 23
    · have h : ∀ i : Fin 23, (stT.getD i.val ([], [])).2.length ≤ 4 := by decide
      exact h ⟨i, hi⟩
    · rw [List.getD, List.getElem?_eq_none (by rw [stT_len]; omega)]
      exact Nat.zero_le _
  exact this _
theorem wrap_negP (n : Int) (h0 : -9223372036854775808 ≤ n) (h1 : n ≤ 0) : IntKind.i64.wrap n = n := by
  unfold IntKind.wrap
  simp [IntKind.bits, IntKind.signed]
  omega
set_option maxHeartbeats 1000000 in
set_option maxRecDepth 100000 in
theorem small23 (n : Int) (w : World) : Calls Tryz.prog 26 #[.int .i64 n] w fun en w' => en = .returned (.bool (smn n)) ∧ w' = w := by
  obtain ⟨b, hb⟩ : ∃ b, smn n = b := ⟨_, rfl⟩
  have HB := hid_intro hb
  by_cases h1 : -2147483647 ≤ n
  · by_cases h2 : n ≤ 2147483647
    · have e : smn n = true := by unfold smn; simp [h1, h2]
      rw [e]
      clear HB hb e
      go_enter Tryz.func26, Tryz.ntmps26
      go_wp2
      go_ret
      exact ⟨rfl, rfl⟩
    · have e : smn n = false := by unfold smn; simp [h2]
      rw [e]
      clear HB hb e
      go_enter Tryz.func26, Tryz.ntmps26
      go_wp2
      go_ret
      exact ⟨rfl, rfl⟩
  · have e : smn n = false := by unfold smn; simp [h1]
    rw [e]
    clear HB hb e
    go_enter Tryz.func26, Tryz.ntmps26
    go_wp2
    go_ret
    exact ⟨rfl, rfl⟩
set_option maxHeartbeats 2000000 in
set_option maxRecDepth 100000 in
theorem refDec23 : ∀ (k n : Nat) (w : World), n < 10 ^ (k + 1) → k < 12 → Calls Tryz.prog 27 #[.int .i64 (n : Nat)] w fun en w' => en = .returned (.string (tstr (Lib.decDigits n))) ∧ w' = w := by
  intro k
  induction k with
  | zero =>
    intro n w hn hk
    have h10 : n < 10 := by simpa using hn
    have g0 : ¬ (n : Int) < 0 := by omega
    have g1 : (n : Int) < 10 := by omega
    have e1 := cut10 n h10
    have g2 : (0 : Int) ≤ (n : Int) := by omega
    have g3 : (n : Int) + 1 ≤ 10 := by omega
    have g4 : ((n : Int) + 1).toNat = n + 1 := by omega
    have g5 : (n : Int) ≤ (n : Int) + 1 := by omega
    go_enter Tryz.func27, Tryz.ntmps27
    go_wp2
    go_ret
    exact ⟨rfl, rfl⟩
  | succ k ih =>
    intro n w hn hk
    have g0 : ¬ (n : Int) < 0 := by omega
    by_cases h10 : n < 10
    · have g1 : (n : Int) < 10 := by omega
      have e1 := cut10 n h10
      have g2 : (0 : Int) ≤ (n : Int) := by omega
      have g3 : (n : Int) + 1 ≤ 10 := by omega
      have g4 : ((n : Int) + 1).toNat = n + 1 := by omega
      have g5 : (n : Int) ≤ (n : Int) + 1 := by omega
      go_enter Tryz.func27, Tryz.ntmps27
      go_wp2
      go_ret
      exact ⟨rfl, rfl⟩
    · have hd : n / 10 < 10 ^ (k + 1) := by rw [Nat.pow_succ] at hn; omega
      have hlen := dec_len k (n / 10) hd
      have HI : Hid (∀ w : World, Calls Tryz.prog 27 #[.int .i64 ((n / 10 : Nat) : Int)] w fun en w' => en = .returned (.string (tstr (Lib.decDigits (n / 10)))) ∧ w' = w) := fun w => ih (n / 10) w hd (by omega)
      have HJ : Hid (∀ w : World, Calls Tryz.prog 27 #[.int .i64 ((n % 10 : Nat) : Int)] w fun en w' => en = .returned (.string (tstr (Lib.decDigits (n % 10)))) ∧ w' = w) := fun w => ih (n % 10) w (Nat.lt_of_lt_of_le (show n % 10 < 10 by omega) (by rw [Nat.pow_succ]; exact Nat.le_mul_of_pos_left _ (Nat.pow_pos (by decide)))) (by omega)
      have HR : Hid (tstr (Lib.decDigits (n / 10)) ++ tstr (Lib.decDigits (n % 10)) = tstr (Lib.decDigits n)) := by
        show _ = _
        rw [tstr_app, dec_small (show n % 10 < 10 by omega), ← dec_big h10]
      have hb : n < 9000000000000000000 := by
        have h1 : 10 ^ (k + 1 + 1) ≤ 10 ^ 18 := Nat.pow_le_pow_right (by decide) (by omega)
        have h2 : (10 : Nat) ^ 18 = 1000000000000000000 := by decide
        omega
      obtain ⟨q, hq⟩ : ∃ q, n / 10 = q := ⟨_, rfl⟩
      obtain ⟨r, hr⟩ : ∃ r, n % 10 = r := ⟨_, rfl⟩
      have hr10 : r < 10 := by omega
      have g0 : ¬ (n : Int) < 10 := by omega
      have g1 : (n : Int) / 10 = (q : Int) := by omega
      have g1a : (n : Int) % 10 = (r : Int) := by omega
      have g1b : (n : Int).tdiv 10 = (q : Int) := by rw [Int.tdiv_eq_ediv_of_nonneg (by omega)]; omega
      have g1c : (n : Int).tmod 10 = (r : Int) := by rw [Int.tmod_eq_emod_of_nonneg (by omega)]; omega
      have w1 : IntKind.i64.wrap (q : Int) = (q : Int) := wrap_small _ (by omega) (by omega)
      have w2 : IntKind.i64.wrap (r : Int) = (r : Int) := wrap_small _ (by omega) (by omega)
      rw [hq] at HI HR hlen
      rw [hr] at HJ HR
      have z1 := tstr_size (Lib.decDigits q)
      have z2 : (tstr (Lib.decDigits r)).size = 1 := by rw [tstr_size, dec_small hr10]; rfl
      have z3 : ¬ (9223372036854775807 < (tstr (Lib.decDigits q)).size + 1) := by rw [z1]; omega
      clear ih hn hd hq hr hlen z1
      generalize tstr (Lib.decDigits q) = D at *
      generalize tstr (Lib.decDigits r) = E at *
      generalize tstr (Lib.decDigits n) = F at *
      go_enter Tryz.func27, Tryz.ntmps27
      go_wp2_with fail
      refine (HI.out _).mono ?_
      rintro en w3 ⟨rfl, hw3⟩
      rw [hw3]
      clear hw3
      go_wp2_with fail
      refine (HJ.out _).mono ?_
      rintro en w4 ⟨rfl, hw4⟩
      rw [hw4]
      clear hw4
      go_wp2
      go_ret
      exact ⟨congrArg (fun z => Ending.returned (Value.string z)) HR.out, rfl⟩
set_option maxHeartbeats 2000000 in
set_option maxRecDepth 100000 in
theorem decimal23 (n : Int) (hs : smn n = true) (w : World) : Calls Tryz.prog 27 #[.int .i64 n] w fun en w' => en = .returned (.string (tstr (Lib.itoa n))) ∧ w' = w := by
  obtain ⟨h0, h1⟩ := smn_le hs
  by_cases hn : n < 0
  · obtain ⟨m, hm⟩ : ∃ m : Nat, n.natAbs = m := ⟨_, rfl⟩
    have HI := hid_intro (fun W => refDec23 9 m W (by rw [p10]; omega) (by omega))
    have hneg : -n = (m : Int) := by omega
    have w1 : IntKind.i64.wrap (-n) = (m : Int) := by rw [hneg]; exact wrap_small _ (by omega) (by omega)
    have HR : Hid ((⟨#[45]⟩ : ByteArray) ++ tstr (Lib.decDigits m) = tstr (Lib.itoa n)) := by
      show _ = _
      have : (⟨#[45]⟩ : ByteArray) = tstr [45] := rfl
      rw [this, tstr_app]
      unfold Lib.itoa
      rw [if_pos hn, hm]
      rfl
    have hl := dec_len 9 m (by rw [p10]; omega)
    have z1 := tstr_size (Lib.decDigits m)
    have z2 : (⟨#[45]⟩ : ByteArray).size = 1 := rfl
    have z3 : ¬ (9223372036854775807 < 1 + (tstr (Lib.decDigits m)).size) := by rw [z1]; omega
    clear hs hm hneg hl z1
    generalize tstr (Lib.decDigits m) = D at *
    generalize tstr (Lib.itoa n) = F at *
    go_enter Tryz.func27, Tryz.ntmps27
    go_wp2_with fail
    refine (HI.out _).mono ?_
    rintro en w3 ⟨rfl, hw3⟩
    rw [hw3]
    clear hw3
    go_wp2
    go_ret
    exact ⟨congrArg (fun z => Ending.returned (Value.string z)) HR.out, rfl⟩
  · obtain ⟨m, rfl⟩ : ∃ m : Nat, n = m := ⟨n.toNat, by omega⟩
    have e : Lib.itoa (m : Int) = Lib.decDigits m := by unfold Lib.itoa; rw [if_neg hn, Int.toNat_natCast]
    rw [e]
    exact refDec23 9 m w (by rw [p10]; omega) (by omega)
set_option maxHeartbeats 1000000 in
set_option maxRecDepth 100000 in
theorem length23 (b : List Int) (a : Option Addr) (n c : Nat) (hn : b.length = n) (h : n ≤ 2097152) (w : World) : Calls Tryz.prog 48 #[.slice a n c] w fun en w' => en = .returned (.int .i64 (hln b : Nat)) ∧ w' = w := by
  have HR : Hid ((hln b : Int) = max 1 (2 * (n : Int))) := by show _ = _; unfold hln; rw [hn]; omega
  have w1 : IntKind.i64.wrap (2 * (n : Int)) = 2 * (n : Int) := wrap_small _ (by omega) (by omega)
  generalize hln b = H at *
  clear hn
  go_enter Tryz.func48, Tryz.ntmps48
  go_wp2
  go_ret
  exact ⟨by rw [HR.out]; rfl, rfl⟩
theorem opr_nilP (w : World) (k a b c : Int) : OpR w ⟨k, a, b, c, [], [], [], []⟩ none 0 none 0 none 0 none 0 := ⟨Byt.empty w, Byt.empty w, Byt.empty w, (fun i p h => by simp at h), Bt.nil, Bt.nil, Bt.nil⟩
theorem kpq_snoc (o : Opq) (xs : List UInt8) : kpq o (xs ++ [65]) = { kpq o xs with a := o.a } ∧ kpq o (xs ++ [66]) = { kpq o xs with b := o.b } ∧ kpq o (xs ++ [67]) = { kpq o xs with c := o.c } ∧ kpq o (xs ++ [75]) = { kpq o xs with key := o.key } ∧ kpq o (xs ++ [86]) = { kpq o xs with val := o.val } ∧ kpq o (xs ++ [72]) = { kpq o xs with hi := o.hi } ∧ kpq o (xs ++ [70]) = { kpq o xs with f := o.f } := by
  refine ⟨?_, ?_, ?_, ?_, ?_, ?_, ?_⟩ <;> simp [kpq]
theorem fds_in (k : Int) : ∀ c ∈ fds k, c ∈ ltr := by
  unfold fds
  have : ∀ i : Nat, ∀ c ∈ (stT.getD i ([], [])).2, c ∈ ltr := fun i => by
    by_cases hi : i < 23
    · exact fds_ltr ⟨i, hi⟩
    · rw [List.getD, List.getElem?_eq_none (by rw [stT_len]; omega)]
      intro c hc; cases hc
  exact this _
/-- What the document's kept answers. -/
def KpP (w : World) (q : Opq) (en : Ending) (w' : World) : Prop := ∃ ka' kc' va' vc' ha' hc' fa' fc', en = .returned (.agg #[.int .i64 q.k, .int .i64 q.a, .int .i64 q.b, .int .i64 q.c, .slice ka' q.key.length kc', .slice va' q.val.length vc', .slice ha' q.hi.length hc', .slice fa' q.f.length fc']) ∧ w.grownBy w' none ∧ OpR w' q ka' kc' va' vc' ha' hc' fa' fc'
theorem results_opk {fn : Func} {p : Tmp} (h : fn.results = #[.cell p 35]) (tmps : Array Value) (w : World) (g : Nat) (a b c d e f k l : Value) (hp : tmps.getD p undef = .pointer (some ⟨g, 0, none⟩)) (hr : w.heap[g]? = some (.cells #[a, b, c, d, e, f, k, l] 35 (0, 0))) :
    (results fn tmps).run Tryz.prog w = .ok (.agg #[a, b, c, d, e, f, k, l]) w := by
  have hp' : tmps[p]?.getD undef = .pointer (some ⟨g, 0, none⟩) := by simpa using hp
  simp [results, h, hp', asAddr, run_loadVar_row w g 35 35 #[a, b, c, d, e, f, k, l] (0, 0) _ hr Tryz.underlying35 rfl (by rw [size_aopS]; rfl)]
set_option maxHeartbeats 16000000 in
set_option maxRecDepth 100000 in
theorem kept23 (o : Opq) (ka : Option Addr) (kc : Nat) (va : Option Addr) (vc : Nat) (ha : Option Addr) (hc : Nat) (fa : Option Addr) (fc : Nat) (w : World) (hR : OpR w o ka kc va vc ha hc fa fc) (hk : 1 ≤ o.k ∧ o.k ≤ 22) :
    Calls Tryz.prog 47 #[.agg #[.int .i64 o.k, .int .i64 o.a, .int .i64 o.b, .int .i64 o.c, .slice ka o.key.length kc, .slice va o.val.length vc, .slice ha o.hi.length hc, .slice fa o.f.length fc]] w fun en w' => KpP w (kpq o (fds o.k)) en w' := by
  have g1 := World.grownBy_alloc w (.cells #[.int .i64 o.k, .int .i64 o.a, .int .i64 o.b, .int .i64 o.c, .slice ka o.key.length kc, .slice va o.val.length vc, .slice ha o.hi.length hc, .slice fa o.f.length fc] 35) none
  have g2 := World.grownBy_alloc (w.alloc (.cells #[.int .i64 o.k, .int .i64 o.a, .int .i64 o.b, .int .i64 o.c, .slice ka o.key.length kc, .slice va o.val.length vc, .slice ha o.hi.length hc, .slice fa o.f.length fc] 35)) (.cells #[.int .i64 0, .int .i64 0, .int .i64 0, .int .i64 0, .slice none 0 0, .slice none 0 0, .slice none 0 0, .slice none 0 0] 35) none
  have g3 := World.grownBy_alloc ((w.alloc (.cells #[.int .i64 o.k, .int .i64 o.a, .int .i64 o.b, .int .i64 o.c, .slice ka o.key.length kc, .slice va o.val.length vc, .slice ha o.hi.length hc, .slice fa o.f.length fc] 35)).alloc (.cells #[.int .i64 0, .int .i64 0, .int .i64 0, .int .i64 0, .slice none 0 0, .slice none 0 0, .slice none 0 0, .slice none 0 0] 35)) (.cells #[.int .i64 o.k, .int .i64 0, .int .i64 0, .int .i64 0, .slice none 0 0, .slice none 0 0, .slice none 0 0, .slice none 0 0] 35) none
  have xP := heap_keptS (heap_keptS (heap_at0S w #[.int .i64 o.k, .int .i64 o.a, .int .i64 o.b, .int .i64 o.c, .slice ka o.key.length kc, .slice va o.val.length vc, .slice ha o.hi.length hc, .slice fa o.f.length fc] 35) g2) g3
  have xU := heap_keptS (heap_at0S (w.alloc (.cells #[.int .i64 o.k, .int .i64 o.a, .int .i64 o.b, .int .i64 o.c, .slice ka o.key.length kc, .slice va o.val.length vc, .slice ha o.hi.length hc, .slice fa o.f.length fc] 35)) #[.int .i64 0, .int .i64 0, .int .i64 0, .int .i64 0, .slice none 0 0, .slice none 0 0, .slice none 0 0, .slice none 0 0] 35) g3
  have xK := heap_at0S ((w.alloc (.cells #[.int .i64 o.k, .int .i64 o.a, .int .i64 o.b, .int .i64 o.c, .slice ka o.key.length kc, .slice va o.val.length vc, .slice ha o.hi.length hc, .slice fa o.f.length fc] 35)).alloc (.cells #[.int .i64 0, .int .i64 0, .int .i64 0, .int .i64 0, .slice none 0 0, .slice none 0 0, .slice none 0 0, .slice none 0 0] 35)) #[.int .i64 o.k, .int .i64 0, .int .i64 0, .int .i64 0, .slice none 0 0, .slice none 0 0, .slice none 0 0, .slice none 0 0] 35
  rw [size_allocD] at xU
  rw [size_allocD, size_allocD] at xK
  have XP := hid_intro xP
  have XU := hid_intro xU
  have XK := hid_intro xK
  have G3 := hid_intro (grown_trans g1 (grown_trans g2 g3))
  have RO := hid_intro hR
  obtain ⟨i0, hi0⟩ : ∃ i : Nat, o.k = i := ⟨o.k.toNat, by omega⟩
  have HFD : Hid (∀ W, Calls Tryz.prog 50 #[.int .i64 o.k] W fun en w' => en = .returned (.string (tstr (fds o.k))) ∧ W.grownBy w' none) := fun W => by rw [hi0]; exact refFields23P i0 (by omega) (by omega) W
  have HIN := hid_intro (fds_in o.k)
  have hfl := fds_len o.k
  have HQ0 : Hid (kpq o ((fds o.k).take 0) = ⟨o.k, 0, 0, 0, [], [], [], []⟩) := rfl
  clear g1 g2 g3 xP xU xK hR hi0
  go_enter Tryz.func47, Tryz.ntmps47
  go_upto_region 2 with fail
  generalize ((w.alloc (.cells #[.int .i64 o.k, .int .i64 o.a, .int .i64 o.b, .int .i64 o.c, .slice ka o.key.length kc, .slice va o.val.length vc, .slice ha o.hi.length hc, .slice fa o.f.length fc] 35)).alloc (.cells #[.int .i64 0, .int .i64 0, .int .i64 0, .int .i64 0, .slice none 0 0, .slice none 0 0, .slice none 0 0, .slice none 0 0] 35)).alloc (.cells #[.int .i64 o.k, .int .i64 0, .int .i64 0, .int .i64 0, .slice none 0 0, .slice none 0 0, .slice none 0 0, .slice none 0 0] 35) = w1 at *
  obtain ⟨B, hB⟩ : ∃ B, w.heap.size = B := ⟨_, rfl⟩
  have HBW : Hid (w.heap.size ≤ B) := by show _ ≤ _; rw [hB]; exact Nat.le_refl _
  rw [hB] at XP XU XK ⊢
  clear hB
  have p0 := cell_heapS (i := 0) XP.out rfl
  go_wp2_with fail
  refine (HFD.out _).mono ?_
  rintro en w2 ⟨rfl, hg2⟩
  have XP2 := hid_intro (heap_keptS XP.out hg2)
  have XU2 := hid_intro (heap_keptS XU.out hg2)
  have XK2 := hid_intro (heap_keptS XK.out hg2)
  have G2 := hid_intro (grown_trans G3.out hg2)
  clear hg2 p0 XP XU XK G3 HFD
  obtain ⟨fs, hfs⟩ : ∃ fs, fds o.k = fs := ⟨_, rfl⟩
  rw [hfs] at HIN HQ0 hfl ⊢
  have HFS := hid_intro hfs
  clear hfs
  have hzf := tstr_size fs
  have hs4 : (tstr fs).size ≤ 4 := by omega
  clear hfl
  have HTD := hid_intro (tstr_data fs)
  generalize tstr fs = s at *
  have HZF := hid_intro hzf
  clear hzf
  go_wp2
  go_loopw [5] (fun si wr => ∃ (i : Nat) (q : Opq) (ka' : Option Addr) (kc' : Nat) (va' : Option Addr) (vc' : Nat) (ha' : Option Addr) (hc' : Nat) (fa' : Option Addr) (fc' : Nat), i ≤ s.size ∧ si = .int .i64 (i : Nat) ∧ kpq o (fs.take i) = q ∧ wr.heap[B + 1 + 1]? = some (.cells #[.int .i64 q.k, .int .i64 q.a, .int .i64 q.b, .int .i64 q.c, .slice ka' q.key.length kc', .slice va' q.val.length vc', .slice ha' q.hi.length hc', .slice fa' q.f.length fc'] 35 (0, 0)) ∧ wr.heap[B]? = some (.cells #[.int .i64 o.k, .int .i64 o.a, .int .i64 o.b, .int .i64 o.c, .slice ka o.key.length kc, .slice va o.val.length vc, .slice ha o.hi.length hc, .slice fa o.f.length fc] 35 (0, 0)) ∧ wr.heap[B + 1]? = some (.cells #[.int .i64 0, .int .i64 0, .int .i64 0, .int .i64 0, .slice none 0 0, .slice none 0 0, .slice none 0 0, .slice none 0 0] 35 (0, 0)) ∧ w.grownBy wr none ∧ OpR w q ka' kc' va' vc' ha' hc' fa' fc') (fun si _ => s.size - (intOf si).toNat)
  case atStart => exact ⟨0, _, none, 0, none, 0, none, 0, none, 0, Nat.zero_le _, rfl, HQ0.out, XK2.out, XP2.out, XU2.out, G2.out, opr_nilP _ _ _ _ _⟩
  case round =>
    obtain ⟨i, q, ka', kc', va', vc', ha', hc', fa', fc', hi, rfl, hq, hK, hP, hU, hg, hQ⟩ := hrel
    have HQ := hid_intro hq
    have XK := hid_intro hK
    have XP := hid_intro hP
    have XU := hid_intro hU
    have HG := hid_intro hg
    have RQ := hid_intro hQ
    clear hq hK hP hU hg hQ XK2 XP2 XU2 G2 HQ0
    by_cases hlt : i < s.size
    · have e1 : (i : Int) < (s.size : Int) := by omega
      have e2 : (0 : Int) ≤ (i : Int) := by omega
      have hfl2 : i < fs.length := by have := HZF.out; omega
      have hgd := getD_data s i hlt
      rw [HTD.out] at hgd
      have hfc : fs[i]'hfl2 = s[i]'hlt := by rw [← hgd, List.getD, List.getElem?_eq_getElem hfl2]; rfl
      have hc7 := HIN.out _ (List.getElem_mem hfl2)
      have HTK : Hid (fs.take (i + 1) = fs.take i ++ [fs[i]'hfl2]) := by show _ = _; rw [List.take_add_one, List.getElem?_eq_getElem hfl2]; rfl
      have wi : IntKind.i64.wrap ((i : Int) + 1) = (i : Int) + 1 := wrap_small _ (by omega) (by omega)
      rw [hfc] at hc7 HTK
      obtain ⟨s1, s2, s3, s4, s5, s6, s7⟩ := kpq_snoc o (fs.take i)
      rw [HQ.out] at s1 s2 s3 s4 s5 s6 s7
      clear hgd hfc hfl2
      generalize hch : s[i]'hlt = ch at *
      unfold ltr at hc7
      simp only [List.mem_cons, List.not_mem_nil, or_false] at hc7
      rcases hc7 with rfl | rfl | rfl | rfl | rfl | rfl | rfl
      · have hcn : (s[i]'hlt).toNat = 65 := by rw [hch]; rfl
        have d1 := cell_heapS (i := 1) XP.out rfl
        have k1 := cell_heapS (i := 1) XK.out rfl
        have z1 := frozen_of_row wr (B + 1 + 1) 1 _ _ XK.out
        have hb := heap_setCell_same wr (B + 1 + 1) 1 _ _ (.int .i64 o.a) XK.out
        have gc := grown_cellS wr (B + 1 + 1) 1 (.int .i64 o.a)
        have RQ2 : Hid (OpR w { q with a := o.a } ka' kc' va' vc' ha' hc' fa' fc') := ⟨RQ.out.key, RQ.out.val, RQ.out.hi, RQ.out.f, RQ.out.bk, RQ.out.bv, RQ.out.bh⟩
        have NB := hid_intro hb
        have NP : Hid ((wr.setCell ⟨B + 1 + 1, 1, none⟩ (.int .i64 o.a)).heap[B]? = some (.cells #[.int .i64 o.k, .int .i64 o.a, .int .i64 o.b, .int .i64 o.c, .slice ka o.key.length kc, .slice va o.val.length vc, .slice ha o.hi.length hc, .slice fa o.f.length fc] 35 (0, 0))) := by show _ = _; rw [gc.block B (Array.getElem?_eq_some_iff.1 XP.out).1 (by simp; omega)]; exact XP.out
        have NU : Hid ((wr.setCell ⟨B + 1 + 1, 1, none⟩ (.int .i64 o.a)).heap[B + 1]? = some (.cells #[.int .i64 0, .int .i64 0, .int .i64 0, .int .i64 0, .slice none 0 0, .slice none 0 0, .slice none 0 0, .slice none 0 0] 35 (0, 0))) := by show _ = _; rw [gc.block (B + 1) (Array.getElem?_eq_some_iff.1 XU.out).1 (by simp)]; exact XU.out
        have NG := hid_intro (grown_new HG.out gc (by have := HBW.out; omega))
        have NQ : Hid (kpq o (fs.take (i + 1)) = { q with a := o.a }) := by show _ = _; rw [HTK.out, s1]
        clear hb gc hch s1 s2 s3 s4 s5 s6 s7
        go_wp2
        go_roundw
        case rel => exact ⟨i + 1, _, ka', kc', va', vc', ha', hc', fa', fc', by omega, by go_num, NQ.out, NB.out, NP.out, NU.out, NG.out, RQ2.out⟩
        case measure => simp [intOf]; omega
      · have hcn : (s[i]'hlt).toNat = 66 := by rw [hch]; rfl
        have d2 := cell_heapS (i := 2) XP.out rfl
        have k2 := cell_heapS (i := 2) XK.out rfl
        have z2 := frozen_of_row wr (B + 1 + 1) 2 _ _ XK.out
        have hb := heap_setCell_same wr (B + 1 + 1) 2 _ _ (.int .i64 o.b) XK.out
        have gc := grown_cellS wr (B + 1 + 1) 2 (.int .i64 o.b)
        have RQ2 : Hid (OpR w { q with b := o.b } ka' kc' va' vc' ha' hc' fa' fc') := ⟨RQ.out.key, RQ.out.val, RQ.out.hi, RQ.out.f, RQ.out.bk, RQ.out.bv, RQ.out.bh⟩
        have NB := hid_intro hb
        have NP : Hid ((wr.setCell ⟨B + 1 + 1, 2, none⟩ (.int .i64 o.b)).heap[B]? = some (.cells #[.int .i64 o.k, .int .i64 o.a, .int .i64 o.b, .int .i64 o.c, .slice ka o.key.length kc, .slice va o.val.length vc, .slice ha o.hi.length hc, .slice fa o.f.length fc] 35 (0, 0))) := by show _ = _; rw [gc.block B (Array.getElem?_eq_some_iff.1 XP.out).1 (by simp; omega)]; exact XP.out
        have NU : Hid ((wr.setCell ⟨B + 1 + 1, 2, none⟩ (.int .i64 o.b)).heap[B + 1]? = some (.cells #[.int .i64 0, .int .i64 0, .int .i64 0, .int .i64 0, .slice none 0 0, .slice none 0 0, .slice none 0 0, .slice none 0 0] 35 (0, 0))) := by show _ = _; rw [gc.block (B + 1) (Array.getElem?_eq_some_iff.1 XU.out).1 (by simp)]; exact XU.out
        have NG := hid_intro (grown_new HG.out gc (by have := HBW.out; omega))
        have NQ : Hid (kpq o (fs.take (i + 1)) = { q with b := o.b }) := by show _ = _; rw [HTK.out, s2]
        clear hb gc hch s1 s2 s3 s4 s5 s6 s7
        go_wp2
        go_roundw
        case rel => exact ⟨i + 1, _, ka', kc', va', vc', ha', hc', fa', fc', by omega, by go_num, NQ.out, NB.out, NP.out, NU.out, NG.out, RQ2.out⟩
        case measure => simp [intOf]; omega
      · have hcn : (s[i]'hlt).toNat = 67 := by rw [hch]; rfl
        have d3 := cell_heapS (i := 3) XP.out rfl
        have k3 := cell_heapS (i := 3) XK.out rfl
        have z3 := frozen_of_row wr (B + 1 + 1) 3 _ _ XK.out
        have hb := heap_setCell_same wr (B + 1 + 1) 3 _ _ (.int .i64 o.c) XK.out
        have gc := grown_cellS wr (B + 1 + 1) 3 (.int .i64 o.c)
        have RQ2 : Hid (OpR w { q with c := o.c } ka' kc' va' vc' ha' hc' fa' fc') := ⟨RQ.out.key, RQ.out.val, RQ.out.hi, RQ.out.f, RQ.out.bk, RQ.out.bv, RQ.out.bh⟩
        have NB := hid_intro hb
        have NP : Hid ((wr.setCell ⟨B + 1 + 1, 3, none⟩ (.int .i64 o.c)).heap[B]? = some (.cells #[.int .i64 o.k, .int .i64 o.a, .int .i64 o.b, .int .i64 o.c, .slice ka o.key.length kc, .slice va o.val.length vc, .slice ha o.hi.length hc, .slice fa o.f.length fc] 35 (0, 0))) := by show _ = _; rw [gc.block B (Array.getElem?_eq_some_iff.1 XP.out).1 (by simp; omega)]; exact XP.out
        have NU : Hid ((wr.setCell ⟨B + 1 + 1, 3, none⟩ (.int .i64 o.c)).heap[B + 1]? = some (.cells #[.int .i64 0, .int .i64 0, .int .i64 0, .int .i64 0, .slice none 0 0, .slice none 0 0, .slice none 0 0, .slice none 0 0] 35 (0, 0))) := by show _ = _; rw [gc.block (B + 1) (Array.getElem?_eq_some_iff.1 XU.out).1 (by simp)]; exact XU.out
        have NG := hid_intro (grown_new HG.out gc (by have := HBW.out; omega))
        have NQ : Hid (kpq o (fs.take (i + 1)) = { q with c := o.c }) := by show _ = _; rw [HTK.out, s3]
        clear hb gc hch s1 s2 s3 s4 s5 s6 s7
        go_wp2
        go_roundw
        case rel => exact ⟨i + 1, _, ka', kc', va', vc', ha', hc', fa', fc', by omega, by go_num, NQ.out, NB.out, NP.out, NU.out, NG.out, RQ2.out⟩
        case measure => simp [intOf]; omega
      · have hcn : (s[i]'hlt).toNat = 75 := by rw [hch]; rfl
        have d4 := cell_heapS (i := 4) XP.out rfl
        have k4 := cell_heapS (i := 4) XK.out rfl
        have z4 := frozen_of_row wr (B + 1 + 1) 4 _ _ XK.out
        have hb := heap_setCell_same wr (B + 1 + 1) 4 _ _ (.slice ka o.key.length kc) XK.out
        have gc := grown_cellS wr (B + 1 + 1) 4 (.slice ka o.key.length kc)
        have RQ2 : Hid (OpR w { q with key := o.key } ka kc va' vc' ha' hc' fa' fc') := ⟨RO.out.key, RQ.out.val, RQ.out.hi, RQ.out.f, RO.out.bk, RQ.out.bv, RQ.out.bh⟩
        have NB := hid_intro hb
        have NP : Hid ((wr.setCell ⟨B + 1 + 1, 4, none⟩ (.slice ka o.key.length kc)).heap[B]? = some (.cells #[.int .i64 o.k, .int .i64 o.a, .int .i64 o.b, .int .i64 o.c, .slice ka o.key.length kc, .slice va o.val.length vc, .slice ha o.hi.length hc, .slice fa o.f.length fc] 35 (0, 0))) := by show _ = _; rw [gc.block B (Array.getElem?_eq_some_iff.1 XP.out).1 (by simp; omega)]; exact XP.out
        have NU : Hid ((wr.setCell ⟨B + 1 + 1, 4, none⟩ (.slice ka o.key.length kc)).heap[B + 1]? = some (.cells #[.int .i64 0, .int .i64 0, .int .i64 0, .int .i64 0, .slice none 0 0, .slice none 0 0, .slice none 0 0, .slice none 0 0] 35 (0, 0))) := by show _ = _; rw [gc.block (B + 1) (Array.getElem?_eq_some_iff.1 XU.out).1 (by simp)]; exact XU.out
        have NG := hid_intro (grown_new HG.out gc (by have := HBW.out; omega))
        have NQ : Hid (kpq o (fs.take (i + 1)) = { q with key := o.key }) := by show _ = _; rw [HTK.out, s4]
        clear hb gc hch s1 s2 s3 s4 s5 s6 s7
        go_wp2
        go_roundw
        case rel => exact ⟨i + 1, _, ka, kc, va', vc', ha', hc', fa', fc', by omega, by go_num, NQ.out, NB.out, NP.out, NU.out, NG.out, RQ2.out⟩
        case measure => simp [intOf]; omega
      · have hcn : (s[i]'hlt).toNat = 86 := by rw [hch]; rfl
        have d5 := cell_heapS (i := 5) XP.out rfl
        have k5 := cell_heapS (i := 5) XK.out rfl
        have z5 := frozen_of_row wr (B + 1 + 1) 5 _ _ XK.out
        have hb := heap_setCell_same wr (B + 1 + 1) 5 _ _ (.slice va o.val.length vc) XK.out
        have gc := grown_cellS wr (B + 1 + 1) 5 (.slice va o.val.length vc)
        have RQ2 : Hid (OpR w { q with val := o.val } ka' kc' va vc ha' hc' fa' fc') := ⟨RQ.out.key, RO.out.val, RQ.out.hi, RQ.out.f, RQ.out.bk, RO.out.bv, RQ.out.bh⟩
        have NB := hid_intro hb
        have NP : Hid ((wr.setCell ⟨B + 1 + 1, 5, none⟩ (.slice va o.val.length vc)).heap[B]? = some (.cells #[.int .i64 o.k, .int .i64 o.a, .int .i64 o.b, .int .i64 o.c, .slice ka o.key.length kc, .slice va o.val.length vc, .slice ha o.hi.length hc, .slice fa o.f.length fc] 35 (0, 0))) := by show _ = _; rw [gc.block B (Array.getElem?_eq_some_iff.1 XP.out).1 (by simp; omega)]; exact XP.out
        have NU : Hid ((wr.setCell ⟨B + 1 + 1, 5, none⟩ (.slice va o.val.length vc)).heap[B + 1]? = some (.cells #[.int .i64 0, .int .i64 0, .int .i64 0, .int .i64 0, .slice none 0 0, .slice none 0 0, .slice none 0 0, .slice none 0 0] 35 (0, 0))) := by show _ = _; rw [gc.block (B + 1) (Array.getElem?_eq_some_iff.1 XU.out).1 (by simp)]; exact XU.out
        have NG := hid_intro (grown_new HG.out gc (by have := HBW.out; omega))
        have NQ : Hid (kpq o (fs.take (i + 1)) = { q with val := o.val }) := by show _ = _; rw [HTK.out, s5]
        clear hb gc hch s1 s2 s3 s4 s5 s6 s7
        go_wp2
        go_roundw
        case rel => exact ⟨i + 1, _, ka', kc', va, vc, ha', hc', fa', fc', by omega, by go_num, NQ.out, NB.out, NP.out, NU.out, NG.out, RQ2.out⟩
        case measure => simp [intOf]; omega
      · have hcn : (s[i]'hlt).toNat = 72 := by rw [hch]; rfl
        have d6 := cell_heapS (i := 6) XP.out rfl
        have k6 := cell_heapS (i := 6) XK.out rfl
        have z6 := frozen_of_row wr (B + 1 + 1) 6 _ _ XK.out
        have hb := heap_setCell_same wr (B + 1 + 1) 6 _ _ (.slice ha o.hi.length hc) XK.out
        have gc := grown_cellS wr (B + 1 + 1) 6 (.slice ha o.hi.length hc)
        have RQ2 : Hid (OpR w { q with hi := o.hi } ka' kc' va' vc' ha hc fa' fc') := ⟨RQ.out.key, RQ.out.val, RO.out.hi, RQ.out.f, RQ.out.bk, RQ.out.bv, RO.out.bh⟩
        have NB := hid_intro hb
        have NP : Hid ((wr.setCell ⟨B + 1 + 1, 6, none⟩ (.slice ha o.hi.length hc)).heap[B]? = some (.cells #[.int .i64 o.k, .int .i64 o.a, .int .i64 o.b, .int .i64 o.c, .slice ka o.key.length kc, .slice va o.val.length vc, .slice ha o.hi.length hc, .slice fa o.f.length fc] 35 (0, 0))) := by show _ = _; rw [gc.block B (Array.getElem?_eq_some_iff.1 XP.out).1 (by simp; omega)]; exact XP.out
        have NU : Hid ((wr.setCell ⟨B + 1 + 1, 6, none⟩ (.slice ha o.hi.length hc)).heap[B + 1]? = some (.cells #[.int .i64 0, .int .i64 0, .int .i64 0, .int .i64 0, .slice none 0 0, .slice none 0 0, .slice none 0 0, .slice none 0 0] 35 (0, 0))) := by show _ = _; rw [gc.block (B + 1) (Array.getElem?_eq_some_iff.1 XU.out).1 (by simp)]; exact XU.out
        have NG := hid_intro (grown_new HG.out gc (by have := HBW.out; omega))
        have NQ : Hid (kpq o (fs.take (i + 1)) = { q with hi := o.hi }) := by show _ = _; rw [HTK.out, s6]
        clear hb gc hch s1 s2 s3 s4 s5 s6 s7
        go_wp2
        go_roundw
        case rel => exact ⟨i + 1, _, ka', kc', va', vc', ha, hc, fa', fc', by omega, by go_num, NQ.out, NB.out, NP.out, NU.out, NG.out, RQ2.out⟩
        case measure => simp [intOf]; omega
      · have hcn : (s[i]'hlt).toNat = 70 := by rw [hch]; rfl
        have d7 := cell_heapS (i := 7) XP.out rfl
        have k7 := cell_heapS (i := 7) XK.out rfl
        have z7 := frozen_of_row wr (B + 1 + 1) 7 _ _ XK.out
        have hb := heap_setCell_same wr (B + 1 + 1) 7 _ _ (.slice fa o.f.length fc) XK.out
        have gc := grown_cellS wr (B + 1 + 1) 7 (.slice fa o.f.length fc)
        have RQ2 : Hid (OpR w { q with f := o.f } ka' kc' va' vc' ha' hc' fa fc) := ⟨RQ.out.key, RQ.out.val, RQ.out.hi, RO.out.f, RQ.out.bk, RQ.out.bv, RQ.out.bh⟩
        have NB := hid_intro hb
        have NP : Hid ((wr.setCell ⟨B + 1 + 1, 7, none⟩ (.slice fa o.f.length fc)).heap[B]? = some (.cells #[.int .i64 o.k, .int .i64 o.a, .int .i64 o.b, .int .i64 o.c, .slice ka o.key.length kc, .slice va o.val.length vc, .slice ha o.hi.length hc, .slice fa o.f.length fc] 35 (0, 0))) := by show _ = _; rw [gc.block B (Array.getElem?_eq_some_iff.1 XP.out).1 (by simp; omega)]; exact XP.out
        have NU : Hid ((wr.setCell ⟨B + 1 + 1, 7, none⟩ (.slice fa o.f.length fc)).heap[B + 1]? = some (.cells #[.int .i64 0, .int .i64 0, .int .i64 0, .int .i64 0, .slice none 0 0, .slice none 0 0, .slice none 0 0, .slice none 0 0] 35 (0, 0))) := by show _ = _; rw [gc.block (B + 1) (Array.getElem?_eq_some_iff.1 XU.out).1 (by simp)]; exact XU.out
        have NG := hid_intro (grown_new HG.out gc (by have := HBW.out; omega))
        have NQ : Hid (kpq o (fs.take (i + 1)) = { q with f := o.f }) := by show _ = _; rw [HTK.out, s7]
        clear hb gc hch s1 s2 s3 s4 s5 s6 s7
        go_wp2
        go_roundw
        case rel => exact ⟨i + 1, _, ka', kc', va', vc', ha', hc', fa, fc, by omega, by go_num, NQ.out, NB.out, NP.out, NU.out, NG.out, RQ2.out⟩
        case measure => simp [intOf]; omega
    · obtain rfl : i = s.size := by omega
      have hq2 : kpq o fs = q := by have := HQ.out; rw [List.take_of_length_le (by have := HZF.out; omega)] at this; exact this
      have HE : Hid (kpq o (fds o.k) = q) := by show _ = _; rw [HFS.out]; exact hq2
      clear hq2 HQ
      have d0 := cell_heapS (i := 0) XK.out rfl
      have d1 := cell_heapS (i := 1) XK.out rfl
      have d2 := cell_heapS (i := 2) XK.out rfl
      have d3 := cell_heapS (i := 3) XK.out rfl
      have d4 := cell_heapS (i := 4) XK.out rfl
      have d5 := cell_heapS (i := 5) XK.out rfl
      have d6 := cell_heapS (i := 6) XK.out rfl
      have d7 := cell_heapS (i := 7) XK.out rfl
      have u0 := cell_heapS (i := 0) XU.out rfl
      have zu0 := frozen_of_row wr (B + 1) 0 _ _ XU.out
      have u1 := cell_heapS (i := 1) XU.out rfl
      have zu1 := frozen_of_row wr (B + 1) 1 _ _ XU.out
      have u2 := cell_heapS (i := 2) XU.out rfl
      have zu2 := frozen_of_row wr (B + 1) 2 _ _ XU.out
      have u3 := cell_heapS (i := 3) XU.out rfl
      have zu3 := frozen_of_row wr (B + 1) 3 _ _ XU.out
      have u4 := cell_heapS (i := 4) XU.out rfl
      have zu4 := frozen_of_row wr (B + 1) 4 _ _ XU.out
      have u5 := cell_heapS (i := 5) XU.out rfl
      have zu5 := frozen_of_row wr (B + 1) 5 _ _ XU.out
      have u6 := cell_heapS (i := 6) XU.out rfl
      have zu6 := frozen_of_row wr (B + 1) 6 _ _ XU.out
      have u7 := cell_heapS (i := 7) XU.out rfl
      have zu7 := frozen_of_row wr (B + 1) 7 _ _ XU.out
      go_wp2
      obtain ⟨y1, y2⟩ := box8_put XU.out (.int .i64 q.k) (.int .i64 q.a) (.int .i64 q.b) (.int .i64 q.c) (.slice ka' q.key.length kc') (.slice va' q.val.length vc') (.slice ha' q.hi.length hc') (.slice fa' q.f.length fc')
      refine bodyPost_ret (results_opk rfl _ _ (B + 1) _ _ _ _ _ _ _ _ rfl y1) rfl ?_
      rw [HE.out]
      exact ⟨_, _, _, _, _, _, _, _, rfl, grown_new HG.out y2 (by have := HBW.out; omega), RQ.out.keptN (grown_new HG.out y2 (by have := HBW.out; omega))⟩
end Go.Proofs.YtcjgmiilfjjbcaaGreatDoor

namespace Go.Proofs.YtcjgmiilfjjbcaaGreatDoor
open Go.RowKit

set_option maxHeartbeats 16000000 in
set_option maxRecDepth 100000 in
theorem fault23 (o : Opq) (ka : Option Addr) (kc : Nat) (va : Option Addr) (vc : Nat) (ha : Option Addr) (hc : Nat) (fa : Option Addr) (fc : Nat) (w : World) (hR : OpR w o ka kc va vc ha hc fa fc) (hl : o.f.length ≤ 1048576) :
    Calls Tryz.prog 28 #[.agg #[.int .i64 o.k, .int .i64 o.a, .int .i64 o.b, .int .i64 o.c, .slice ka o.key.length kc, .slice va o.val.length vc, .slice ha o.hi.length hc, .slice fa o.f.length fc]] w fun en w' => en = .returned (.int .i64 (dfl o)) ∧ w.grownBy w' none := by
  have g1 := World.grownBy_alloc w (.cells #[.int .i64 o.k, .int .i64 o.a, .int .i64 o.b, .int .i64 o.c, .slice ka o.key.length kc, .slice va o.val.length vc, .slice ha o.hi.length hc, .slice fa o.f.length fc] 35) none
  have XP := hid_intro (heap_at0S w #[.int .i64 o.k, .int .i64 o.a, .int .i64 o.b, .int .i64 o.c, .slice ka o.key.length kc, .slice va o.val.length vc, .slice ha o.hi.length hc, .slice fa o.f.length fc] 35)
  have G1 := hid_intro g1
  have R1 := hid_intro (hR.keptN g1)
  have HD : Hid (dfl o = if o.k < 1 ∨ 22 < o.k then 231 else if jd1 o (fds o.k) ltr ≠ 0 then 244 else if smn o.a = true ∧ smn o.b = true ∧ smn o.c = true then jd3 o.f else 232) := rfl
  clear g1 hR
  obtain ⟨R, hRR⟩ : ∃ R, dfl o = R := ⟨_, rfl⟩
  rw [hRR] at HD ⊢
  clear hRR
  by_cases h1 : o.k < 1
  · have HR : Hid (R = 231) := by show _ = _; rw [HD.out, if_pos (.inl h1)]
    go_enter Tryz.func28, Tryz.ntmps28
    go_wp2
    go_ret
    exact ⟨by rw [HR.out]; rfl, G1.out⟩
  · by_cases h2 : 22 < o.k
    · have HR : Hid (R = 231) := by show _ = _; rw [HD.out, if_pos (.inr h2)]
      go_enter Tryz.func28, Tryz.ntmps28
      go_wp2
      go_ret
      exact ⟨by rw [HR.out]; rfl, G1.out⟩
    · have HD2 : Hid (R = if jd1 o (fds o.k) ltr ≠ 0 then 244 else if smn o.a = true ∧ smn o.b = true ∧ smn o.c = true then jd3 o.f else 232) := by show _ = _; rw [HD.out, if_neg (by omega)]
      have HJ := hid_intro (jd1_iff o (fds o.k))
      have HKP := hid_intro (fun W hW => kept23 o ka kc va vc ha hc fa fc W hW ⟨by omega, by omega⟩)
      obtain ⟨q, hq⟩ : ∃ q, kpq o (fds o.k) = q := ⟨_, rfl⟩
      rw [hq] at HJ HKP
      clear hq HD
      go_enter Tryz.func28, Tryz.ntmps28
      go_upto_region 1 with fail
      generalize w.alloc (.cells #[.int .i64 o.k, .int .i64 o.a, .int .i64 o.b, .int .i64 o.c, .slice ka o.key.length kc, .slice va o.val.length vc, .slice ha o.hi.length hc, .slice fa o.f.length fc] 35) = w1 at *
      generalize w.heap.size = B at *
      have x0 : w1.cell? ⟨B, 0, none⟩ = some (.int .i64 o.k) := cell_heapS (i := 0) XP.out rfl
      have x1 : w1.cell? ⟨B, 1, none⟩ = some (.int .i64 o.a) := cell_heapS (i := 1) XP.out rfl
      have x2 : w1.cell? ⟨B, 2, none⟩ = some (.int .i64 o.b) := cell_heapS (i := 2) XP.out rfl
      have x3 : w1.cell? ⟨B, 3, none⟩ = some (.int .i64 o.c) := cell_heapS (i := 3) XP.out rfl
      have x4 : w1.cell? ⟨B, 4, none⟩ = some (.slice ka o.key.length kc) := cell_heapS (i := 4) XP.out rfl
      have x5 : w1.cell? ⟨B, 5, none⟩ = some (.slice va o.val.length vc) := cell_heapS (i := 5) XP.out rfl
      have x6 : w1.cell? ⟨B, 6, none⟩ = some (.slice ha o.hi.length hc) := cell_heapS (i := 6) XP.out rfl
      have x7 : w1.cell? ⟨B, 7, none⟩ = some (.slice fa o.f.length fc) := cell_heapS (i := 7) XP.out rfl
      have X0 : w1.cell? ⟨B, 0, none⟩ = some (.int .i64 o.k) ∧ w1.cell? ⟨B, 1, none⟩ = some (.int .i64 o.a) ∧ w1.cell? ⟨B, 2, none⟩ = some (.int .i64 o.b) ∧ w1.cell? ⟨B, 3, none⟩ = some (.int .i64 o.c) ∧ w1.cell? ⟨B, 4, none⟩ = some (.slice ka o.key.length kc) ∧ w1.cell? ⟨B, 5, none⟩ = some (.slice va o.val.length vc) ∧ w1.cell? ⟨B, 6, none⟩ = some (.slice ha o.hi.length hc) ∧ w1.cell? ⟨B, 7, none⟩ = some (.slice fa o.f.length fc) := ⟨x0, x1, x2, x3, x4, x5, x6, x7⟩
      go_wp2_with fail
      refine wp_region_held_drew (S := (fun w' => w'.cell? ⟨B, 0, none⟩ = some (.int .i64 o.k) ∧ w'.cell? ⟨B, 1, none⟩ = some (.int .i64 o.a) ∧ w'.cell? ⟨B, 2, none⟩ = some (.int .i64 o.b) ∧ w'.cell? ⟨B, 3, none⟩ = some (.int .i64 o.c) ∧ w'.cell? ⟨B, 4, none⟩ = some (.slice ka o.key.length kc) ∧ w'.cell? ⟨B, 5, none⟩ = some (.slice va o.val.length vc) ∧ w'.cell? ⟨B, 6, none⟩ = some (.slice ha o.hi.length hc) ∧ w'.cell? ⟨B, 7, none⟩ = some (.slice fa o.f.length fc))) (by kernel_rfl) ?_ (fun hHeld => ?_)
      · exact X0
      refine wpAnyH_take (i := 0) (oi := { dst := some 18, op := Go.Op.load 35 (Go.Operand.tmp 1), type := 35, pos := "script.go:259", after := #[], guard := none }) (v := ?_) rfl (by kernel_rfl) (by kernel_rfl) (by kernel_rfl) (fun _ _ _ h => h) (Or.inl ⟨by rfl, ?_⟩) (by assumption) ?_
      rotate_left
      · intro w hSw; (try dsimp only at hSw); go_simp; (try with_reducible rfl)
      simp only [Act.put, List.setIfInBounds_toArray, List.set_cons_zero, List.set_cons_succ]
      refine wpAnyH_take (i := 1) (oi := { dst := some 19, op := Go.Op.load 35 (Go.Operand.tmp 1), type := 35, pos := "script.go:259", after := #[], guard := none }) (v := ?_) rfl (by kernel_rfl) (by kernel_rfl) (by kernel_rfl) (fun _ _ _ h => h) (Or.inl ⟨by rfl, ?_⟩) (by assumption) ?_
      rotate_left
      · intro w hSw; (try dsimp only at hSw); go_simp; (try with_reducible rfl)
      simp only [Act.put, List.setIfInBounds_toArray, List.set_cons_zero, List.set_cons_succ]
      refine wpAnyH_ready (rs := [2]) (by kernel_rfl) (by simp) ?_
      refine AllReadyH.cons (o := { dst := some 20, op := Go.Op.call { callee := Go.Callee.value (Go.Operand.func 47), args := #[Go.Operand.tmp 19], argTypes := #[35] }, type := 35, pos := "script.go:259", after := #[{ on := 1, ground := Go.Ground.data }], guard := none }) rfl (fun K2 hK2 => ?_) AllReadyH.nil
      go_simp
      go_at_call 47
      refine (HKP.out w1.drew (R1.out.keptN ((Qt.refl w1).drew.grown none))).mono ?_
      rintro en w2 ⟨ka', kc', va', vc', ha', hc', fa', fc', rfl, hg2, hq2⟩
      have G2 := hid_intro (grown_undrew hg2)
      have Q2 := hid_intro hq2
      have T2 := hid_intro (show w2.cell? ⟨B, 0, none⟩ = some (.int .i64 o.k) ∧ w2.cell? ⟨B, 1, none⟩ = some (.int .i64 o.a) ∧ w2.cell? ⟨B, 2, none⟩ = some (.int .i64 o.b) ∧ w2.cell? ⟨B, 3, none⟩ = some (.int .i64 o.c) ∧ w2.cell? ⟨B, 4, none⟩ = some (.slice ka o.key.length kc) ∧ w2.cell? ⟨B, 5, none⟩ = some (.slice va o.val.length vc) ∧ w2.cell? ⟨B, 6, none⟩ = some (.slice ha o.hi.length hc) ∧ w2.cell? ⟨B, 7, none⟩ = some (.slice fa o.f.length fc) from ⟨cell_keptS x0 G2.out, cell_keptS x1 G2.out, cell_keptS x2 G2.out, cell_keptS x3 G2.out, cell_keptS x4 G2.out, cell_keptS x5 G2.out, cell_keptS x6 G2.out, cell_keptS x7 G2.out⟩)
      clear hg2 hq2
      refine hK2.out _ _ (T2.out) (fun hHeld => ?_)
      clear hK2 K2
      try simp only [Act.put, List.setIfInBounds_toArray, List.set_cons_zero, List.set_cons_succ]
      refine wpAnyH_ready (rs := [3]) (by kernel_rfl) (by simp) ?_
      refine AllReadyH.cons (o := { dst := some 21, op := Go.Op.call { callee := Go.Callee.value (Go.Operand.func 46), args := #[Go.Operand.tmp 18, Go.Operand.tmp 20], argTypes := #[35, 35] }, type := 4, pos := "script.go:259", after := #[{ on := 0, ground := Go.Ground.data }, { on := 2, ground := Go.Ground.data }, { on := 2, ground := Go.Ground.chain }], guard := none }) rfl (fun K2 hK2 => ?_) AllReadyH.nil
      go_simp
      go_at_call 46
      refine (sameOp_any o ka kc va vc ha hc fa fc q ka' kc' va' vc' ha' hc' fa' fc' w2 (R1.out.keptN G2.out) Q2.out (by omega)).mono ?_
      rintro en w3 ⟨b, rfl, hb3, hg3⟩
      have G3 := hid_intro (grown_trans G2.out hg3)
      have HB3 := hid_intro hb3
      have T3 := hid_intro (show w3.cell? ⟨B, 0, none⟩ = some (.int .i64 o.k) ∧ w3.cell? ⟨B, 1, none⟩ = some (.int .i64 o.a) ∧ w3.cell? ⟨B, 2, none⟩ = some (.int .i64 o.b) ∧ w3.cell? ⟨B, 3, none⟩ = some (.int .i64 o.c) ∧ w3.cell? ⟨B, 4, none⟩ = some (.slice ka o.key.length kc) ∧ w3.cell? ⟨B, 5, none⟩ = some (.slice va o.val.length vc) ∧ w3.cell? ⟨B, 6, none⟩ = some (.slice ha o.hi.length hc) ∧ w3.cell? ⟨B, 7, none⟩ = some (.slice fa o.f.length fc) from ⟨cell_keptS x0 G3.out, cell_keptS x1 G3.out, cell_keptS x2 G3.out, cell_keptS x3 G3.out, cell_keptS x4 G3.out, cell_keptS x5 G3.out, cell_keptS x6 G3.out, cell_keptS x7 G3.out⟩)
      clear hg3 hb3
      refine hK2.out _ _ (T3.out) (fun hHeld => ?_)
      clear hK2 K2
      try simp only [Act.put, List.setIfInBounds_toArray, List.set_cons_zero, List.set_cons_succ]
      refine wpAnyH_take (i := 4) (oi := { dst := some 3, op := Go.Op.assign (Go.Operand.tmp 21), type := 4, pos := "script.go:259", after := #[{ on := 3, ground := Go.Ground.data }, { on := 3, ground := Go.Ground.chain }, { on := 0, ground := Go.Ground.phase }, { on := 1, ground := Go.Ground.phase }, { on := 2, ground := Go.Ground.phase }, { on := 3, ground := Go.Ground.phase }], guard := none }) (v := ?_) rfl (by kernel_rfl) (by kernel_rfl) (by kernel_rfl) (fun _ _ _ h => h) (Or.inl ⟨by rfl, ?_⟩) (by assumption) ?_
      rotate_left
      · intro w hSw; (try dsimp only at hSw); go_simp; (try with_reducible rfl)
      simp only [Act.put, List.setIfInBounds_toArray, List.set_cons_zero, List.set_cons_succ]
      refine wpAnyH_done (by kernel_rfl) ?_ _
      have XP3 := hid_intro (heap_keptS XP.out G3.out)
      have RF := hid_intro (R1.out.keptN G3.out).f
      have GW := hid_intro (grown_trans G1.out G3.out)
      clear x0 x1 x2 x3 x4 x5 x6 x7 X0 T2 T3 Q2 hHeld HKP R1
      have y0 := cell_heapS (i := 0) XP3.out rfl
      have y1 := cell_heapS (i := 1) XP3.out rfl
      have y2 := cell_heapS (i := 2) XP3.out rfl
      have y3 := cell_heapS (i := 3) XP3.out rfl
      have y4 := cell_heapS (i := 4) XP3.out rfl
      have y5 := cell_heapS (i := 5) XP3.out rfl
      have y6 := cell_heapS (i := 6) XP3.out rfl
      have y7 := cell_heapS (i := 7) XP3.out rfl
      cases b with
      | false =>
        have HR : Hid (R = 244) := by
          show _ = _
          rw [HD2.out, if_pos (fun h => by have := HB3.out.2 (HJ.out.1 h).symm; cases this)]
        clear HB3 HJ HD2
        go_wp2
        go_ret
        exact ⟨by rw [HR.out]; rfl, GW.out⟩
      | true =>
        have HD3 : Hid (R = if smn o.a = true ∧ smn o.b = true ∧ smn o.c = true then jd3 o.f else 232) := by
          show _ = _
          rw [HD2.out, if_neg (fun h => h (HJ.out.2 (HB3.out.1 rfl).symm))]
        have HSA := hid_intro (fun n W => small23 n W)
        clear HB3 HJ HD2
        obtain ⟨ba, hba⟩ : ∃ b, smn o.a = b := ⟨_, rfl⟩
        obtain ⟨bb, hbb⟩ : ∃ b, smn o.b = b := ⟨_, rfl⟩
        obtain ⟨bc, hbc⟩ : ∃ b, smn o.c = b := ⟨_, rfl⟩
        have HA1 := hid_intro (fun W => small23 o.a W)
        have HA2 := hid_intro (fun W => small23 o.b W)
        have HA3 := hid_intro (fun W => small23 o.c W)
        rw [hba, hbb, hbc] at HD3
        rw [hba] at HA1
        rw [hbb] at HA2
        rw [hbc] at HA3
        clear hba hbb hbc
        go_wp2_with fail
        refine (HA1.out _).mono ?_
        rintro en w4 ⟨rfl, hw4⟩
        rw [hw4]
        clear hw4
        go_wp2_with fail
        refine (HA2.out _).mono ?_
        rintro en w5 ⟨rfl, hw5⟩
        rw [hw5]
        clear hw5
        go_wp2_with fail
        refine (HA3.out _).mono ?_
        rintro en w6 ⟨rfl, hw6⟩
        rw [hw6]
        clear hw6
        by_cases hs : ba = true ∧ bb = true ∧ bc = true
        · obtain ⟨rfl, rfl, rfl⟩ := hs
          have HD4 : Hid (R = jd3 (o.f.drop 0)) := by show _ = _; rw [HD3.out, if_pos ⟨rfl, rfl, rfl⟩]; rfl
          clear HD3 HA1 HA2 HA3
          obtain ⟨m, hm⟩ : ∃ m, o.f.length = m := ⟨_, rfl⟩
          have HM := hid_intro hm
          rw [hm] at hl XP3
          clear hm y0 y1 y2 y3 y4 y5 y6 y7
          go_wp2
          go_loopw [7, 8, 9] (fun si _ _ wr => ∃ i : Nat, i ≤ m ∧ si = .int .i64 (i : Nat) ∧ w3.grownBy wr none ∧ R = jd3 (o.f.drop i)) (fun si _ _ _ => m - (intOf si).toNat)
          case atStart => exact ⟨0, Nat.zero_le _, rfl, World.grownBy.refl _ _, HD4.out⟩
          case round =>
            obtain ⟨i, hi, rfl, hg, hr⟩ := hrel
            have HG := hid_intro hg
            have HR := hid_intro hr
            have d7 := cell_heapS (i := 7) (heap_keptS XP3.out hg) rfl
            clear hg hr HD4
            by_cases hlt : i < m
            · have e1 : (i : Int) < (m : Int) := by omega
              have e2 : (0 : Int) ≤ (i : Int) := by omega
              have wi : IntKind.i64.wrap ((i : Int) + 1) = (i : Int) + 1 := wrap_small _ (by omega) (by omega)
              obtain ⟨p, hp⟩ : ∃ p, o.f[i]? = some p := ⟨_, List.getElem?_eq_getElem (by have := HM.out; omega)⟩
              obtain ⟨g, off, ea, c1, c2⟩ := (RF.out.keptN HG.out) i p hp
              subst ea
              obtain ⟨px, py⟩ := p
              simp only at c1 c2
              have HR2 : Hid (R = if jdF (px, py) = 0 then jd3 (o.f.drop (i + 1)) else jdF (px, py)) := by
                show _ = _
                have h1 := (List.getElem?_eq_some_iff.1 hp).2
                rw [HR.out, List.drop_eq_getElem_cons (by have := HM.out; omega), h1]
                rfl
              have ga := World.grownBy_alloc wr (.cells #[.int .i64 px, .int .i64 py] 43) none
              have GA := hid_intro (grown_trans HG.out ga)
              have HSY := hid_intro (fun W => small23 py W)
              clear hp HR ga
              by_cases a1 : px < 0
              · have HR3 : Hid (R = 231) := by show _ = _; rw [HR2.out]; unfold jdF; simp only; rw [if_neg (show ¬ (px = 0 ∨ px = 1) by omega), if_neg (show ¬ px = 2 by omega)]; rfl
                clear HR2
                go_wp2
                go_ret
                exact ⟨by rw [HR3.out]; rfl, grown_trans GW.out GA.out⟩
              by_cases a2 : 2 < px
              · have HR3 : Hid (R = 231) := by show _ = _; rw [HR2.out]; unfold jdF; simp only; rw [if_neg (show ¬ (px = 0 ∨ px = 1) by omega), if_neg (show ¬ px = 2 by omega)]; rfl
                clear HR2
                go_wp2
                go_ret
                exact ⟨by rw [HR3.out]; rfl, grown_trans GW.out GA.out⟩
              by_cases a3 : px < 2
              · by_cases a4 : py = 0
                · have HR3 : Hid (R = jd3 (o.f.drop (i + 1))) := by show _ = _; rw [HR2.out, if_pos]; unfold jdF; simp only; rw [if_pos (show px = 0 ∨ px = 1 by omega), if_pos a4]
                  subst a4
                  have hz : smn 0 = true := smn_zero
                  rw [hz] at HSY
                  clear HR2 hz
                  go_wp2_with fail
                  refine (HSY.out _).mono ?_
                  rintro en w7 ⟨rfl, hw7⟩
                  rw [hw7]
                  clear hw7
                  go_wp2
                  go_roundw
                  case rel => exact ⟨i + 1, by omega, by go_num, GA.out, HR3.out⟩
                  case measure => simp [intOf]; omega
                · have HR3 : Hid (R = 244) := by show _ = _; rw [HR2.out]; unfold jdF; simp only; rw [if_pos (show px = 0 ∨ px = 1 by omega), if_neg a4]; rfl
                  have gy : (py == 0) = false := by rw [beq_eq_false_iff_ne]; exact a4
                  clear HR2 a4
                  go_wp2
                  go_ret
                  exact ⟨by rw [HR3.out]; rfl, grown_trans GW.out GA.out⟩
              · have hp2 : px = 2 := by omega
                by_cases a4 : smn py = true
                · have HR3 : Hid (R = jd3 (o.f.drop (i + 1))) := by show _ = _; rw [HR2.out, if_pos]; unfold jdF; simp only; rw [if_neg (show ¬ (px = 0 ∨ px = 1) by omega), if_pos hp2, if_pos a4]
                  rw [a4] at HSY
                  clear HR2 hp2 a4
                  go_wp2_with fail
                  refine (HSY.out _).mono ?_
                  rintro en w7 ⟨rfl, hw7⟩
                  rw [hw7]
                  clear hw7
                  go_wp2
                  go_roundw
                  case rel => exact ⟨i + 1, by omega, by go_num, GA.out, HR3.out⟩
                  case measure => simp [intOf]; omega
                · have HR3 : Hid (R = 232) := by show _ = _; rw [HR2.out]; unfold jdF; simp only; rw [if_neg (show ¬ (px = 0 ∨ px = 1) by omega), if_pos hp2, if_neg a4]; rfl
                  have hz : smn py = false := by simpa using a4
                  rw [hz] at HSY
                  clear HR2 hp2 a4 hz
                  go_wp2_with fail
                  refine (HSY.out _).mono ?_
                  rintro en w7 ⟨rfl, hw7⟩
                  rw [hw7]
                  clear hw7
                  go_wp2
                  go_ret
                  exact ⟨by rw [HR3.out]; rfl, grown_trans GW.out GA.out⟩
            · obtain rfl : i = m := by omega
              have HR3 : Hid (R = 0) := by show _ = _; rw [HR.out, List.drop_of_length_le (by have := HM.out; omega)]; rfl
              go_wp2
              go_ret
              exact ⟨by rw [HR3.out]; rfl, grown_trans GW.out HG.out⟩
        · have HR : Hid (R = 232) := by show _ = _; rw [HD3.out, if_neg hs]
          clear HD3 HA1 HA2 HA3
          cases ba with
          | false =>
            go_wp2
            go_ret
            exact ⟨by rw [HR.out]; rfl, GW.out⟩
          | true =>
            cases bb with
            | false =>
              go_wp2
              go_ret
              exact ⟨by rw [HR.out]; rfl, GW.out⟩
            | true =>
              cases bc with
              | false =>
                go_wp2
                go_ret
                exact ⟨by rw [HR.out]; rfl, GW.out⟩
              | true => exact absurd ⟨rfl, rfl, rfl⟩ hs
end Go.Proofs.YtcjgmiilfjjbcaaGreatDoor

namespace Go.Proofs.YtcjgmiilfjjbcaaGreatDoor
open Go.RowKit

theorem wpList_append_og {ops : Array Oper} {rest : List Oper} {o : Oper} {a : Act} {w : World} {Q : Exit → Act → World → Prop} (hgd : o.guard = none) (s x : Operand)
    (ho : o.op = .call { callee := .builtin .append, args := #[s, x], argTypes := #[32, 9] })
    (base : Nat) (v : Value) (p : List UInt8) (hs : a.eval s = v) (hown : Og w base v p) (S : ByteArray) (y : List UInt8) (hS : S = tstr y) (hx : a.eval x = .string S)
    (hbytes : p.length + y.length ≤ 140737488355328) (hbase : base ≤ w.heap.size)
    (h : ∀ v' w', Og w' base v' (p ++ y) → w.grownBy w' v.ownBlock → wpList Tryz.prog ops Q rest (a.put o.dst v') w') : wpList Tryz.prog ops Q (o :: rest) a w := by
  obtain ⟨i0, hi, hz0, hz1, hz2⟩ := info_parts info_u8
  subst hS
  refine wpList_plain hgd fun K hK => ?_
  obtain ⟨v', w', hr, h2, h3⟩ := run_append_og (P := Tryz.prog) w base 32 9 o.type i0 Tryz.underlying32 Tryz.underlying9 hi hz0 hz1 hz2 v p hown y hbytes hbase
  unfold Oper.wp execOp
  simp only [ho, resolve, invoke, builtin, Sem.run_bind, Sem.run_pure, Result.andThen_ok, List.map_toArray, List.map_cons, List.map_nil, hs, hx, hr]
  exact hK _ _ (h v' w' h2 h3)
theorem oneCell_bytes (y : List UInt8) : ∀ u ∈ Lib.byteCells y, u.oneCell' = true := by
  intro u hu
  unfold Lib.byteCells at hu
  obtain ⟨b, _, rfl⟩ := List.mem_map.1 hu
  rfl
/-- The same of a list of bytes. -/
theorem run_append_og1 {P : Program} (w : World) (base : Nat) (t ty : TypeId) (i : TypeInfo) (ht : P.underlying t = some (.slice 5)) (hi : P.info? 5 = some i) (hz : i.zero = some (.int .u8 0))
    (hsize : i.size = 1) (hby : i.bytes = 1) (v : Value) (x : List UInt8) (hown : Og w base v x) (ad : Addr) (c : Nat) (y : List UInt8) (hy : ∀ j u, (Lib.byteCells y)[j]? = some u → w.cell? (ad.add j) = some u)
    (hbytes : x.length + y.length ≤ 140737488355328) (hbase : base ≤ w.heap.size) :
    ∃ v' w', (Builtin.append_ #[t, t] ty #[v, .slice (some ad) y.length c]).run P w = .ok v' w' ∧ Og w' base v' (x ++ y) ∧ w.grownBy w' v.ownBlock := by
  obtain ⟨g, cap, cur, fz, rfl, hbg, hg, hfz, hnc, hcm, hcs, htake⟩ := hown
  have hcl : (Lib.byteCells y).length = y.length := Lib.byteCells_length y
  by_cases hroom : x.length + y.length ≤ cap
  · have hf := run_firstCells_some (P := P) w 1 y.length ad y.length c (Lib.byteCells y) (by omega) hy
    have hst := store_free P g x.length 5 fz (Lib.byteCells y) 0 cur w hg (by omega) (by omega) (oneCell_bytes y)
    simp only [Nat.add_zero, hcl] at hst
    have hr : (Builtin.append_ #[t, t] ty #[.slice (some ⟨g, 0, none⟩) x.length cap, .slice (some ad) y.length c]).run P w = .ok (.slice (some ⟨g, 0, none⟩) (x.length + y.length) cap) (w.setRow g (cur.toList.take x.length ++ Lib.byteCells y ++ cur.toList.drop (x.length + y.length)).toArray) := by
      simp [Builtin.append_, run_underlying ht, sizeOf, typeInfo, hi, hsize, Builtin.lenOf, hroom, hf, Addr.add_lit, hst]
    refine ⟨_, _, hr, ⟨g, cap, _, fz, by rw [List.length_append], hbg, setRow_heap w g cur _ 5 _ hg, ?_, by rw [List.length_append]; exact hroom, hcm, ?_, ?_⟩, ⟨rfl, rfl, rfl, by simp, fun k _ hk => setRow_other w g k _ (fun e => hk (by simp [Value.ownBlock, e]))⟩⟩
    · rcases hfz with h | h
      · left
        simp only [List.size_toArray, List.length_append, List.length_take, List.length_drop, Array.length_toList, hcl]
        omega
      · right; rw [List.length_append]; omega
    · simp only [List.size_toArray, List.length_append, List.length_take, List.length_drop, Array.length_toList, hcl]
      omega
    · rw [htake, Lib.byteCells_append, List.length_append]
      have e1 : (Lib.byteCells x ++ Lib.byteCells y).length = x.length + y.length := by rw [List.length_append, hcl, Lib.byteCells_length]
      show List.take (x.length + y.length) (Lib.byteCells x ++ Lib.byteCells y ++ _) = _
      rw [← e1, List.take_left]
  · have holds : ∀ j u, (Lib.byteCells x)[j]? = some u → w.cell? ((⟨g, 0, none⟩ : Addr).add j) = some u := by
      intro j u hju
      have hj : j < x.length := by have := (List.getElem?_eq_some_iff.1 hju).1; simpa [Lib.byteCells_length] using this
      rw [Addr.add_lit, Nat.zero_add, cell_of_row w g j cur 5 fz hg]
      have e : (cur.toList.take x.length)[j]? = (Lib.byteCells x)[j]? := by rw [htake]
      rw [List.getElem?_take, if_pos hj] at e
      rw [← Array.getElem?_toList, e, hju]
    have hr := run_append_grow (P := P) w t ty 5 i (.int .u8 0) ht hi hz ⟨g, 0, none⟩ x.length cap (Lib.byteCells x) (by rw [hsize, Lib.byteCells_length]; omega) holds ad y.length c (Lib.byteCells y) (by rw [hsize, hcl]; omega) hy (by omega) (by omega) (by rw [hby]; exact growslice_fits (by omega) (by omega))
    have hge := grownCap_ge w (x.length + y.length) cap 5
    have hcm2 : grownCap w (x.length + y.length) cap 5 ≤ maxLen := grownCap_le_maxLen w (x.length + y.length) cap 5 (by unfold maxLen; omega)
    refine ⟨_, _, hr, ⟨w.heap.size, _, _, (0, 0), by rw [List.length_append], hbase, heap_alloc_new w.drew _, .inr (Nat.zero_le _), by rw [List.length_append]; omega, hcm2, ?_, ?_⟩, ⟨rfl, rfl, rfl, by simp, fun k hk _ => Lib.alloc_old w.drew _ k hk⟩⟩
    · have hz1 : (Value.int IntKind.u8 0).cells.size = 1 := rfl
      simp only [Array.size_append, List.size_toArray, size_zeroCells, hz1, Lib.byteCells_length, hcl]
      omega
    · simp only [Array.toList_append, List.append_assoc]
      rw [← List.append_assoc, Lib.byteCells_append]
      have e1 : (Lib.byteCells x ++ Lib.byteCells y).length = (x ++ y).length := by rw [List.length_append, hcl, Lib.byteCells_length, List.length_append]
      show List.take (x ++ y).length (Lib.byteCells x ++ Lib.byteCells y ++ _) = _
      rw [← e1, List.take_left]
theorem wpList_append_og1 {ops : Array Oper} {rest : List Oper} {o : Oper} {a : Act} {w : World} {Q : Exit → Act → World → Prop} (hgd : o.guard = none) (s x : Operand)
    (ho : o.op = .call { callee := .builtin .append, args := #[s, x], argTypes := #[32, 32] })
    (base : Nat) (v : Value) (p : List UInt8) (hs : a.eval s = v) (hown : Og w base v p) (ad : Addr) (n c : Nat) (y : List UInt8) (hn : n = y.length) (hx : a.eval x = .slice (some ad) n c) (hy : ∀ j u, (Lib.byteCells y)[j]? = some u → w.cell? (ad.add j) = some u)
    (hbytes : p.length + y.length ≤ 140737488355328) (hbase : base ≤ w.heap.size)
    (h : ∀ v' w', Og w' base v' (p ++ y) → w.grownBy w' v.ownBlock → wpList Tryz.prog ops Q rest (a.put o.dst v') w') : wpList Tryz.prog ops Q (o :: rest) a w := by
  obtain ⟨i0, hi, hz0, hz1, hz2⟩ := info_parts info_u8
  subst hn
  refine wpList_plain hgd fun K hK => ?_
  obtain ⟨v', w', hr, h2, h3⟩ := run_append_og1 (P := Tryz.prog) w base 32 o.type i0 Tryz.underlying32 hi hz0 hz1 hz2 v p hown ad c y hy hbytes hbase
  unfold Oper.wp execOp
  simp only [ho, resolve, invoke, builtin, Sem.run_bind, Sem.run_pure, Result.andThen_ok, List.map_toArray, List.map_cons, List.map_nil, hs, hx, hr]
  exact hK _ _ (h v' w' h2 h3)
theorem conv_ogS {w : World} {B n c : Nat} {a : Option Addr} {t : List UInt8} (h : Og w B (.slice a n c) t) : (convert 32 9 (.slice a n c)).run Tryz.prog w = .ok (.string (tstr t)) w := by
  have := conv_str h.byt.2
  rw [dz_str] at this
  exact this
theorem Og.size {w : World} {base : Nat} {v : Value} {t : List UInt8} (h : Og w base v t) : base ≤ w.heap.size := by
  obtain ⟨g, cap, cur, fz, h1, h2, h3, h4⟩ := h
  have := (Array.getElem?_eq_some_iff.1 h3).1
  omega
end Go.Proofs.YtcjgmiilfjjbcaaGreatDoor
