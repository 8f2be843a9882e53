import Derived.Test.YtcfmkpgfeodhaaaGreatDoorQ17
import Derived.Test.YtcfmkpgfeodhaaaGreatDoorQ21
namespace Go.Proofs.YtcfmkpgfeodhaaaGreatDoor
open Go.RowKit Go.Maps
theorem wp_thenP {P : Program} {s : Code} {Q : Exit → Act → World → Prop} {a : Act} {w : World} (h : s.wp P (Exit.then (fun a w => Q .normal a w) Q) a w) : s.wp P Q a w := by
 refine wp_mono h ?_
 intro e a' w' hq
 cases e with
 | normal => exact hq
 | exit id => exact hq
 | goto l => exact hq
 | ret => exact hq
 | panic ch => exact hq
 | outgrown => exact hq
theorem Kst.low {kd : Nat → Kdk} {Same : Nat → World → Nat → (Nat → Value) → Lst → Value → Prop} {w w' : World} {B base : Nat} {cs : Nat → Value} {L : Nat → List Lst} {ys : Nat → List Value} {T : Nat → Prop} (hK : Kds kd Same) (h : Kst kd Same w B base cs L ys) (hg : Fr w w' T) (hT : ∀ i, T i → i < base ∧ i ≠ B) : Kst kd Same w' B base cs L ys := by
 have hsz := hg.size
 have hB := h.t.box.lt
 have nB : ¬ T B := fun e => (hT B e).2 rfl
 have k : Kee w w' base cs cs := ⟨hsz, fun d hd hf => ⟨hg.block d hd (fun e => by have := (hT d e).1; have := hf.1; omega), hf⟩⟩
 have bx : Kbx w' B cs := ⟨fun i hi => by rw [World.cell?_of_block (hg.block B hB nB)]; exact h.t.box.cell i hi, fun i hi => by rw [World.frozen?_of_block (hg.block B hB nB)]; exact h.t.box.fz i hi⟩
 refine ⟨⟨bx, h.t.c0, h.t.c1, h.t.gn, ⟨h.t.bB.1, by have := h.t.bB.2; omega⟩, h.t.un, fun q hq i hi => ⟨(h.t.bk q hq i hi).1, by have := (h.t.bk q hq i hi).2; omega⟩⟩, fun j hj => (h.k j hj).kee k rfl rfl (fun i hi => ?_) (hK.s j hj _ _ _ _ _ k)⟩
 have hq := hK.q j hj
 have hi' : base ≤ i ∧ i < w.heap.size := by
  rcases hi with hi | hi
  ·exact h.t.bk _ (by omega) i hi
  ·exact h.t.bk _ (by omega) i hi
 exact hg.block i hi'.2 (fun e => by have := (hT i e).1; omega)
theorem Ok.len20 {p : Po} (h : Ok p) (hr : Ris p.l) (hk : p.k ≤ 20000) : p.l.length ≤ 20000 := by
 have h1 : (p.l.map (·.1)).Nodup := hr.keys.imp fun {a b} hab => by omega
 have h2 := nodup_le (l := (List.range 20000).map fun (i : Nat) => (i : Int)) h1 (fun x hx => by
  obtain ⟨y, hy, rfl⟩ := List.mem_map.1 hx
  have := h.l y hy
  have h3 := h.ck
  simp only [List.mem_map, List.mem_range]
  exact ⟨y.1.toNat, by omega, by omega⟩)
 simpa using h2
structure Pb (w0 w : World) (K base : Nat) (cs : Nat → Value) (L : Nat → List Lst) (ys : Nat → List Value) (B s q : Nat) (p : Po) (ps : List Int) (m t : Nat) : Prop where
 kst : Kst kdS SameS w K base cs L ys
 em : ∀ j, j < 13 → j ≠ 1 → L j = []
 ml : (L 1).length ≤ m
 pl : Pl w B s q p
 ok : Ok p
 pk : p.k ≤ 20000
 pq : Pq p.q ps
 pn : ps.length ≤ t
 bl : ∀ i, Bk B s q i → w0.heap.size ≤ i ∧ i < base ∧ i ≠ K
 gr : w0.grownBy w none
 k0 : w0.heap.size ≤ K
theorem Pb.keptN {w0 w w' : World} {K base : Nat} {cs : Nat → Value} {L : Nat → List Lst} {ys : Nat → List Value} {B s q : Nat} {p : Po} {ps : List Int} {m t : Nat} (h : Pb w0 w K base cs L ys B s q p ps m t) (hg : w.grownBy w' none) : Pb w0 w' K base cs L ys B s q p ps m t :=
 ⟨h.kst.keptN kds_ok hg, h.em, h.ml, h.pl.keptN hg, h.ok, h.pk, h.pq, h.pn, h.bl, grown_trans h.gr hg, h.k0⟩
theorem Pb.wide {w0 w : World} {K base : Nat} {cs : Nat → Value} {L : Nat → List Lst} {ys : Nat → List Value} {B s q : Nat} {p : Po} {ps : List Int} {m t m' t' : Nat} (h : Pb w0 w K base cs L ys B s q p ps m t) (hm : m ≤ m') (ht : t ≤ t') : Pb w0 w K base cs L ys B s q p ps m' t' :=
 ⟨h.kst, h.em, Nat.le_trans h.ml hm, h.pl, h.ok, h.pk, h.pq, Nat.le_trans h.pn ht, h.bl, h.gr, h.k0⟩
theorem Pb.op {w0 w w' : World} {K base : Nat} {cs : Nat → Value} {L : Nat → List Lst} {ys : Nat → List Value} {B s q : Nat} {p p' : Po} {ps ps' : List Int} {m t t' : Nat} (h : Pb w0 w K base cs L ys B s q p ps m t) (hf : Fr w w' (Bk B s q)) (hp : Pl w' B s q p') (ok : Ok p') (pk : p'.k ≤ 20000) (pq : Pq p'.q ps') (pn : ps'.length ≤ t') : Pb w0 w' K base cs L ys B s q p' ps' m t' :=
 ⟨h.kst.low kds_ok hf (fun i hi => (h.bl i hi).2), h.em, h.ml, hp, ok, pk, pq, pn, h.bl, grown_fr h.gr hf (fun i hi => (h.bl i hi).1), h.k0⟩
def PbE (w0 w : World) (K base B s q m t : Nat) : Prop := ∃ cs L ys p ps, Pb w0 w K base cs L ys B s q p ps m t
theorem Pb.pin {w0 w : World} {K base : Nat} {cs : Nat → Value} {L : Nat → List Lst} {ys : Nat → List Value} {B s q : Nat} {p : Po} {ps : List Int} {m t : Nat} (h : Pb w0 w K base cs L ys B s q p ps m t) (v : Int) (hv : -9223372036854775808 ≤ v ∧ v ≤ 9223372036854775807) (ht : t ≤ 1000) :
  Calls Tryz.prog 9 #[.pointer (some ⟨B, 0, none⟩), .int .i64 v] w fun en w' => en = .returned (.tuple #[]) ∧ PbE w0 w' K base B s q m (t + 1) := by
 have hg := h.pq.get v
 have hq := h.pq.len
 have hn := h.pn
 refine (pin_any v h.pl hv (by omega) hg.1 (by omega)).mono ?_
 rintro en w' ⟨rfl, h1, h2⟩
 exact ⟨rfl, cs, L, ys, _, _, h.op h2 h1 ⟨h.ok.c2, h.ok.ck, h.ok.k, h.ok.l⟩ h.pk (h.pq.pin v) (by simp; omega)⟩
theorem Pb.unpin {w0 w : World} {K base : Nat} {cs : Nat → Value} {L : Nat → List Lst} {ys : Nat → List Value} {B s q : Nat} {p : Po} {ps : List Int} {m t : Nat} (h : Pb w0 w K base cs L ys B s q p ps m t) (v : Int) (hv : -9223372036854775808 ≤ v ∧ v ≤ 9223372036854775807) (ht : t ≤ 1000) :
  Calls Tryz.prog 10 #[.pointer (some ⟨B, 0, none⟩), .int .i64 v] w fun en w' => (∃ b, en = .returned (.bool b)) ∧ PbE w0 w' K base B s q m (t + 1) := by
 have hg := h.pq.get v
 have hq := h.pq.len
 have hn := h.pn
 by_cases hm : v ∈ ps
 ·refine (unpin_yes v h.pl hv (by
   have : ¬ getI p.q v = 0 := fun e => hg.2.2.1 e hm
   omega) (by omega)).mono ?_
  rintro en w' ⟨rfl, h1, h2⟩
  exact ⟨⟨_, rfl⟩, cs, L, ys, _, _, h.op h2 h1 ⟨h.ok.c2, h.ok.ck, h.ok.k, h.ok.l⟩ h.pk (h.pq.unpin hm) (by have := List.length_erase_le (a := v) (l := ps); omega)⟩
 ·refine (unpin_no v h.pl hv (hg.2.2.2 hm)).mono ?_
  rintro en w' ⟨rfl, rfl⟩
  exact ⟨⟨_, rfl⟩, cs, L, ys, _, _, h.wide (Nat.le_refl _) (by omega)⟩
theorem Pb.commit {w0 w : World} {K base : Nat} {cs : Nat → Value} {L : Nat → List Lst} {ys : Nat → List Value} {B s q : Nat} {p : Po} {ps : List Int} {m t : Nat} (h : Pb w0 w K base cs L ys B s q p ps m t) (d : Int) (a : Option Addr) (n cap : Nat) (g : List Int) (v : Int) (hl : Nt w a g) (hab : ∀ ad, a = some ad → 0 < n → ¬ Bk B s q ad.block) (hn : g.length = n) (hw : Wf g) (hm : n ≤ 1000) (hd2 : d ≤ 100) (hv : -9223372036854775808 ≤ v ∧ v ≤ 9223372036854775807) :
  Calls Tryz.prog 11 #[.pointer (some ⟨B, 0, none⟩), .int .i64 d, .slice a n cap, .int .i64 v] w fun en w' => ∃ (u : Value) (e : Int) (nu : Nat) (Z : List Int) (p' : Po), en = .returned (.tuple #[u, .int .i64 e]) ∧ Pb w0 w' K base cs L ys B s q p' ps m t ∧ w'.ownsRow w.heap.size 3 1 u nu (Z.map (Value.int .i64)) ∧ nu ≤ 50000 ∧ Fr w w' (Bk B s q) := by
 have hr := lsP_range h.ok h.pl.ms.ris d g (by omega)
 by_cases hf : lsP p d g = -1
 ·refine (commit_pool h.pl h.ok d a n cap g v hl hn hw (by omega) (by omega) hf).mono ?_
  rintro en w' ⟨rfl, hg⟩
  exact ⟨_, _, 0, [], p, rfl, h.keptN hg, own_nil _ _ _ _, by omega, Fr.ofN hg⟩
 ·by_cases hfull : rm p - lsP p d g < d
  ·refine (commit_full h.pl h.ok d a n cap g v hl hn hw (by omega) (by omega) (by omega) hfull).mono ?_
   rintro en w' ⟨rfl, hg⟩
   exact ⟨_, _, 0, [], p, rfl, h.keptN hg, own_nil _ _ _ _, by omega, Fr.ofN hg⟩
  ·have hd0 : 0 ≤ d := (may_of_ls (p := p) (d := d) (g := g) (by omega)).1
   refine (commit_ok h.pl h.ok d a n cap g v hl hab hn hw (by omega) hd0 (by omega) (by omega) (by omega) hv).mono ?_
   rintro en w' ⟨u, rfl, ho, hp, hfr⟩
   have hl20 := h.ok.len20 h.pl.ms.ris h.pk
   have hul := us_len p
   have hpk := h.pk
   have hc2 := h.ok.c2
   refine ⟨u, _, _, _, _, rfl, h.op hfr hp (ok_commit h.ok v (by omega) (by omega)) h.pk h.pq h.pn, ho, ?_, hfr⟩
   unfold cmN
   unfold rm at hfull
   omega
theorem Pb.ints {w0 wm w : World} {K base : Nat} {cs : Nat → Value} {L : Nat → List Lst} {ys : Nat → List Value} {B s q : Nat} {p pm : Po} {ps pt : List Int} {m t mm tt : Nat} (hm : Pb w0 wm K base cs L ys B s q pm pt mm tt) (h : Pb w0 w K base cs L ys B s q p ps m t) {u : Value} {n : Nat} {Z : List Int} (ho : w.ownsRow wm.heap.size 3 1 u n (Z.map (Value.int .i64))) (hn : n ≤ 50000) (hm2 : m ≤ 1000) :
  Calls Tryz.prog 12 #[.pointer (some ⟨K, 0, none⟩), u] w fun en w' => en = .returned (.tuple #[]) ∧ PbE w0 w' K base B s q (m + 1) t := by
 have hzl : Z.length = n := by have := ho.1; simpa using this
 have fin : ∀ {w' : World} {cs' : Nat → Value} {y : Value} {x : Lst}, Kfr w w' K base cs cs' → Kst kdS SameS w' K base cs' (lsn L 1 [x]) (ysn ys 1 [y]) → PbE w0 w' K base B s q (m + 1) t := fun {w' cs' y x} hf hk => by
  have hb := h.kst.t.bB
  refine ⟨cs', _, _, p, ps, hk, fun j hj h1 => by rw [lsn_far _ _ h1]; exact h.em j hj h1, by rw [lsn_same]; have := h.ml; simp; omega, h.pl.same (fun i hi => ?_), h.ok, h.pk, h.pq, h.pn, h.bl, hf.grown h.gr h.k0 (by have := h.k0; omega), h.k0⟩
  obtain ⟨b1, b2, b3⟩ := h.bl i hi
  exact hf.low i (h.pl.low i hi) b2 b3
 have hfre : ∀ d, wm.heap.size ≤ d → Fre base cs d := fun d hd => hm.kst.t.new hd
 rcases ho.2 with ⟨rfl, h0⟩ | ⟨g, cap, cur, rfl, hb, hc, h1, h2, h3, h4⟩
 ·subst h0
  have hz : Z = [] := List.length_eq_zero_iff.1 hzl
  subst hz
  refine (kst_ints kds_ok h.kst rfl rfl none 0 0 [] ⟨fun i hi => by simp at hi⟩ rfl (by omega) (by have := h.ml; omega)).mono ?_
  rintro en w' ⟨rfl, cs', y, hf, _, hz⟩
  obtain ⟨x, _, _, hk⟩ := hz rfl rfl
  exact ⟨rfl, fin hf hk⟩
 ·have htn : Tn w base cs (some ⟨g, 0, none⟩) Z := tn_own ho (fun i hi => by obtain rfl := Option.some.inj hi; exact hfre g hb)
  refine (kst_ints kds_ok h.kst rfl rfl (some ⟨g, 0, none⟩) n cap Z htn hzl (by omega) (by have := h.ml; omega)).mono ?_
  rintro en w' ⟨rfl, cs', y, hf, hs, _⟩
  refine ⟨rfl, fin hf (hs ⟨.slice (some ⟨g, 0, none⟩) n cap, g, 0, n, cap, n, cap⟩ rfl rfl rfl ⟨⟨h1, (Nat.mul_one n).symm, (Nat.mul_one cap).symm, by show n ≤ _; omega, by show cap ≤ _; unfold maxLen at h2; omega, _, rfl, fun _ => rfl⟩, fun j hj => ?_, by show n ≤ _; omega, ⟨cur, _, hc⟩, hfre g hb⟩ (fun x hx => ?_))⟩
  ·have hj' : j < cur.size := by have : j < cap := hj; omega
   exact ⟨⟨cur[j], by show w.cell? ⟨g, 0 + j, none⟩ = _; rw [Nat.zero_add, cell_of_row w g j _ _ _ hc]; exact Array.getElem?_eq_getElem hj'⟩, frozen_of_row w g (0 + j) _ _ hc⟩
  ·have hx1 := hm.kst.lt (show 1 < 13 by omega) hx
   exact fun i j _ _ e => by
    have : x.g = g := by injection e
    omega
end Go.Proofs.YtcfmkpgfeodhaaaGreatDoor
