import Derived.Test.YtkiopabcnemgnaaGreatDoorK44
import Derived.Test.YtkiopabcnemgnaaGreatDoorK40
import Derived.Test.YtkiopabcnemgnaaGreatDoorK42
import Derived.Test.YtkiopabcnemgnaaGreatDoorK43
import Derived.Test.YtkiopabcnemgnaaGreatDoorK41
set_option maxRecDepth 100000
set_option maxHeartbeats 4000000
namespace Go.Proofs.YtkiopabcnemgnaaGreatDoor
open Go.RowKit
theorem encode8_none (x : Pv) (p : Pg) (w : World) (hp : Pm w x p) (hk : okK p.kind = false) : Calls Tryz.prog 13 #[.agg #[.int .i64 x.k, .slice x.i.a x.i.n x.i.c, .int .i64 x.l, .slice x.s.a x.s.n x.s.c, .slice x.d.a x.d.n x.d.c, .int .i64 x.x, .slice x.b.a x.b.n x.b.c, .slice x.t.a x.t.n x.t.c, .int .i64 x.h.v, .int .i64 x.h.c, .int .i64 x.h.r, .int .i64 x.h.h, .int .i64 x.h.k, .int .i64 x.h.f, .int .i64 x.h.n]] w fun en w' => Eo8 p w en w' := by
 have HQ := hJ hk;have e2 : okK x.k = false := by rw [hp.kind]; exact hk
 have e1 : kvOf x.k = #[.int .i64 0, .nilFunc, .nilFunc, .nilFunc] := by
  refine (kv_none (fun j hj e => ?_)).1;have : okK x.k = true := by rw [e, okK_iff]; omega
  rw [e2] at this; cases this
 have E1 := hJ e1;have E2 := hJ e2;clear hp hk e1 e2;go_enter Tryz.func13, Tryz.ntmps13;go_upto_region 1 with fail
 have X1 := hJ (Px.new w x);have G1 := hJ (gP w x);generalize w.alloc (.cells #[.int .i64 x.k, .slice x.i.a x.i.n x.i.c, .int .i64 x.l, .slice x.s.a x.s.n x.s.c, .slice x.d.a x.d.n x.d.c, .int .i64 x.x, .slice x.b.a x.b.n x.b.c, .slice x.t.a x.t.n x.t.c, .int .i64 x.h.v, .int .i64 x.h.c, .int .i64 x.h.r, .int .i64 x.h.h, .int .i64 x.h.k, .int .i64 x.h.f, .int .i64 x.h.n] 30) = w1 at *;obtain ⟨c0, c1, c2, c3, c4, c5, c6, c7, c8, c9, c10, c11, c12, c13, c14⟩ := X1.out.cells
 go_wp2_with fail
 refine (kindOf_any x.k _).mono ?_;rintro en w2 ⟨rfl, hg2⟩;rw [E1.out, E2.out];have ga := World.grownBy_alloc w2 (.cells #[.int .i64 0, .nilFunc, .nilFunc, .nilFunc] 71) none;have G3 := hJ (gQ (gQ G1.out hg2) ga);clear hg2 ga X1 G1 c0 c1 c2 c3 c4 c5 c6 c7 c8 c9 c10 c11 c12 c13 c14;go_wp2
 go_ret2
 exact ⟨⟨none, 0, [], 80, rfl, .inl ⟨HQ.out, rfl, rfl⟩, Byt.empty _, Bt.nil, by omega, fun h => by omega⟩, G3.out⟩
theorem encode8_any (x : Pv) (p : Pg) (w : World) (hp : Pm w x p) (he : En8 x p) (ht : Tab w) (hm : Mk w) : Calls Tryz.prog 13 #[.agg #[.int .i64 x.k, .slice x.i.a x.i.n x.i.c, .int .i64 x.l, .slice x.s.a x.s.n x.s.c, .slice x.d.a x.d.n x.d.c, .int .i64 x.x, .slice x.b.a x.b.n x.b.c, .slice x.t.a x.t.n x.t.c, .int .i64 x.h.v, .int .i64 x.h.c, .int .i64 x.h.r, .int .i64 x.h.h, .int .i64 x.h.k, .int .i64 x.h.f, .int .i64 x.h.n]] w fun en w' => Eo8 p w en w' := by
 cases hk : okK p.kind with
 | false => exact encode8_none x p w hp hk
 | true =>
  have h := okK_iff.1 hk
  by_cases h1 : p.kind = 1
  ·exact encode8_1 x p w hp he ht hm h1
  ·by_cases h2 : p.kind = 2
   ·exact encode8_2 x p w hp he ht hm h2
   ·by_cases h3 : p.kind = 3
    ·exact encode8_3 x p w hp he ht hm h3
    ·by_cases h4 : p.kind = 4
     ·exact encode8_4 x p w hp he ht hm h4
     ·exact encode8_5 x p w hp he ht hm (by omega)
def itK : It := ⟨[107], [118, 118], 2, 0⟩
def pgK : Pg := ⟨1, [itK], 0, [], [], 0, [], [], zH⟩
theorem k_wrong : wrong [itK] = 0 := by decide
theorem k_size : size [itK] = 11 := by decide
theorem k_used : used [itK] = [1, 1, 0, 1, 107, 7, 0, 0, 4, 118, 118] := by decide
theorem k_body : body [itK] = [1, 1, 0, 1, 107, 7, 0, 0, 4, 118, 118] ++ List.replicate 4081 0 := by
 unfold body;rw [k_used];simp only [List.length_cons, List.length_nil]
theorem k_bounds : Ib [itK] := by
 intro x hx;obtain rfl := List.mem_singleton.1 hx;exact ⟨btl _ rfl, btl _ rfl, by decide, by decide, by decide, by decide⟩
set_option maxRecDepth 100000
theorem k_head : runs 4294967295 [1, 1, 0, 1, 107, 7, 0, 0, 4, 118, 118] = 622882929 := by decide +kernel
theorem kz0 : stps 2046 622882929 = 430575013 := by rw [← stepsF_eq]; decide +kernel
theorem kz1 : stps 2046 430575013 = 2530128549 := by rw [← stepsF_eq]; decide +kernel
theorem kz2 : stps 2046 2530128549 = 1819359665 := by rw [← stepsF_eq]; decide +kernel
theorem kz3 : stps 2046 1819359665 = 916697747 := by rw [← stepsF_eq]; decide +kernel
theorem kz4 : stps 2046 916697747 = 402550181 := by rw [← stepsF_eq]; decide +kernel
theorem kz5 : stps 2046 402550181 = 1475387649 := by rw [← stepsF_eq]; decide +kernel
theorem kz6 : stps 2046 1475387649 = 4059080439 := by rw [← stepsF_eq]; decide +kernel
theorem kz7 : stps 2046 4059080439 = 1078168711 := by rw [← stepsF_eq]; decide +kernel
theorem kz8 : stps 2046 1078168711 = 4111499635 := by rw [← stepsF_eq]; decide +kernel
theorem kz9 : stps 2046 4111499635 = 2285608818 := by rw [← stepsF_eq]; decide +kernel
theorem kz10 : stps 2046 2285608818 = 494244352 := by rw [← stepsF_eq]; decide +kernel
theorem kz11 : stps 2046 494244352 = 2487820922 := by rw [← stepsF_eq]; decide +kernel
theorem kz12 : stps 2046 2487820922 = 1556955403 := by rw [← stepsF_eq]; decide +kernel
theorem kz13 : stps 2046 1556955403 = 769036597 := by rw [← stepsF_eq]; decide +kernel
theorem kz14 : stps 2046 769036597 = 3282804844 := by rw [← stepsF_eq]; decide +kernel
theorem kz15 : stps 1958 3282804844 = 176656722 := by rw [← stepsF_eq]; decide +kernel
theorem k_zeros : stps 32648 622882929 = 176656722 := by
 rw [show (32648 : Nat) = 2046 + 2046 + 2046 + 2046 + 2046 + 2046 + 2046 + 2046 + 2046 + 2046 + 2046 + 2046 + 2046 + 2046 + 2046 + 1958 from rfl];rw [stps_add, stps_add, stps_add, stps_add, stps_add, stps_add, stps_add, stps_add, stps_add, stps_add, stps_add, stps_add, stps_add, stps_add, stps_add, kz0, kz1, kz2, kz3, kz4, kz5, kz6, kz7, kz8, kz9, kz10, kz11, kz12, kz13, kz14, kz15]
theorem k_sum : upd 0 (body [itK]) = 4118310573 := by
 unfold upd;rw [k_body, runs_app, k_head, runs_zeros, k_zeros]
theorem k_low : low4 4118310573 = [173, 110, 120, 245] := by decide
def kPage : List Int := [1, 1, 0, 1, 107, 7, 0, 0, 4, 118, 118] ++ (List.replicate 4081 0 ++ [173, 110, 120, 245])
theorem k_enc : enc [itK] = (body [itK], 0) := good_enc ⟨k_wrong, by rw [k_size]; decide, rfl⟩
theorem k_bl : (body [itK]).length = 4092 := body_len k_wrong (by rw [k_size]; decide)
theorem k_seal : sealL (body [itK]) = kPage ∧ sealE (body [itK]) = 0 := by
 unfold sealL sealE;rw [if_pos k_bl, if_pos k_bl, k_sum, k_low, k_body];exact ⟨List.append_assoc _ _ _, rfl⟩
theorem k_penc : PEnc pgK kPage 0 := by
 refine .inr (.inr ⟨rfl, rfl, body [itK], 0, .inl ⟨rfl, ?_, ?_⟩, .inr ⟨rfl, k_seal.2.symm, k_seal.1.symm⟩⟩)
 ·show _ = (enc [itK]).1; rw [k_enc]
 ·show _ = (enc [itK]).2; rw [k_enc]
theorem k_len : kPage.length = 4096 := by unfold kPage; rw [List.length_append, List.length_append, List.length_replicate]; rfl
theorem k_spare {zs : List Int} {e : Int} (h : PEnc ⟨1, [itK], 0, [], [], 7, [], [], zH⟩ zs e) : e = 81 := by
 have hne : (⟨1, [itK], 0, [], [], 7, [], [], zH⟩ : Pg) ≠ hasP ⟨1, [itK], 0, [], [], 7, [], [], zH⟩ := by
  intro e;injection e with _ _ _ _ _ h _ _ _
  exact absurd h (by decide)
 rcases h with ⟨h0, _⟩ | ⟨_, _, h, _⟩ | ⟨_, h, _⟩
 ·exact absurd h0 (by decide)
 ·exact h
 ·exact absurd h hne
theorem zeros_no : ¬ fits (List.replicate 4096 0) := by
 rintro ⟨_, h⟩;rw [List.take_replicate, List.drop_replicate, show min 4092 4096 = 4092 by decide, sum_zeros, low_zeros] at h;exact absurd h (by decide)
theorem Il.lit1 (w : World) (x : It) (a b : Option Addr) (n1 c1 n2 c2 : Nat) (k : Nat) (hk : k = w.heap.size) (h1 : Byt w a n1 c1 x.key) (h2 : Byt w b n2 c2 x.val) (l1 : n1 ≤ c1 ∧ c1 ≤ 100) (l2 : n2 ≤ c2 ∧ c2 ≤ 100) (s1 f1 : Int) (hs1 : x.size = s1) (hf1 : x.first = f1) :
  Il (w.alloc (.cells #[.slice a n1 c1, .slice b n2 c2, .int .i64 s1, .int .i64 f1] 62)) (some ⟨k, 0, none⟩) [x] := by
 subst hk hs1 hf1;have hc := fun i => cell_of_row (w.alloc (.cells #[.slice a n1 c1, .slice b n2 c2, .int .i64 x.size, .int .i64 x.first] 62)) w.heap.size i _ _ (0, 0) (heap_alloc_new w _)
 refine ⟨fun i hi => ?_⟩
 match i, hi with
 | 0, _ => exact ⟨w.heap.size, 0, a, n1, c1, b, n2, c2, rfl, hc 0, hc 1, hc 2, hc 3, h1.on _, l1.1, by omega, h2.on _, l2.1, by omega⟩
 | i + 1, h => exact absurd h (by simp)
theorem num8_any (n : Int) (w : World) : Calls Tryz.prog 17 #[.int .i64 n] w fun en w' => en = .returned (.int .i64 n) ∧ w' = w := by
 go_enter Tryz.func17, Tryz.ntmps17;go_wp2;go_ret;exact ⟨rfl, rfl⟩
end Go.Proofs.YtkiopabcnemgnaaGreatDoor
