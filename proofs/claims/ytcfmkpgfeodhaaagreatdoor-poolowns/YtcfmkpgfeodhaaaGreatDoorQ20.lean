import Derived.Test.YtcfmkpgfeodhaaaGreatDoorQ19
import Derived.Maps.AppendAt
namespace Go.Proofs.YtcfmkpgfeodhaaaGreatDoor
open Go.RowKit Go.Maps
theorem Rf.wide {w : World} {F G : Nat → Prop} {R : Nat} {r : Ro} {vL vP : Value} (h : Rf w F R r vL vP) (k : ∀ i, F i → G i) (hl : ∀ i, G i → i < w.heap.size) : Rf w G R r vL vP :=
 ⟨h.bx, h.lr, h.pr, k _ h.fR, fun g e => k _ (h.fL g e), fun g e => k _ (h.fP g e), hl⟩
end Go.Proofs.YtcfmkpgfeodhaaaGreatDoor
namespace Go.Proofs.YtcfmkpgfeodhaaaGreatDoor
open Go.RowKit Go.Maps
theorem Nt.drop {w : World} {g off : Nat} {xs : List Int} (h : Nt w (some ⟨g, off, none⟩) xs) (k : Nat) : Nt w (some ⟨g, off + k, none⟩) (xs.drop k) := by
 refine ⟨fun i hi => ⟨g, off + k, rfl, ?_⟩⟩
 rw [List.length_drop] at hi
 have := h.at (k + i) (by omega)
 rw [Nat.add_assoc, this]
 simp [List.getD]
theorem Nt.take {w : World} {a : Option Addr} {xs : List Int} (h : Nt w a xs) (k : Nat) : Nt w a (xs.take k) := by
 refine ⟨fun i hi => ?_⟩
 rw [List.length_take] at hi
 obtain ⟨b, off, h1, h2⟩ := h.row i (by omega)
 exact ⟨b, off, h1, by rw [h2, zget_take (show i < k by omega)]⟩
theorem Nt.news {w : World} {g off : Nat} {xs : List Int} (h : Nt w (some ⟨g, off, none⟩) xs) : ∀ j u, (xs.map (Value.int .i64))[j]? = some u → w.cell? ((⟨g, off, none⟩ : Addr).add j) = some u := by
 intro j u hu
 have hj : j < xs.length := by have := (List.getElem?_eq_some_iff.1 hu).1; simpa using this
 rw [Addr.add_lit, h.at j hj]
 rw [← hu]
 simp [List.getD, List.getElem?_eq_getElem hj]
end Go.Proofs.YtcfmkpgfeodhaaaGreatDoor
namespace Go.Proofs.YtcfmkpgfeodhaaaGreatDoor
open Go.RowKit Go.Maps
def stay (l : List (Int × Int)) (T : List Int) : List (Int × Int) := l.filter fun x => !decide (x.1 ∈ T)
theorem Ris.stay {l : List (Int × Int)} (h : Ris l) (T : List Int) : Ris (stay l T) := h.sub List.filter_sublist
theorem may_of_ls {p : Po} {d : Int} {g : List Int} (h : 0 ≤ lsP p d g) : 0 ≤ d ∧ mayP p g = true := by
 unfold lsP at h
 split at h
 ·omega
 ·rename_i hc
  rw [not_or] at hc
  exact ⟨by omega, by cases e : mayP p g; exact absurd e hc.2; rfl⟩
end Go.Proofs.YtcfmkpgfeodhaaaGreatDoor
namespace Go.Proofs.YtcfmkpgfeodhaaaGreatDoor
open Go.RowKit Go.Maps
theorem getI_put_ne {l : List (Int × Int)} (h : Ris l) {k k' : Int} (hne : k' ≠ k) (v : Int) : getI (putI l k v) k' = getI l k' := by
 cases hh : hasI l k' with
 | true =>
  have h1 := getI_has h hh
  exact getI_mem (p := (k', getI l k')) (h.put k v) ((mem_putI _ _ _ _).2 (.inr ⟨h1, hne⟩))
 | false =>
  rw [getI_none hh]
  apply getI_none
  cases e : hasI (putI l k v) k' with
  | false => rfl
  | true =>
   obtain ⟨x, hx, rfl⟩ := (hasI_iff _ _).1 e
   rcases (mem_putI _ _ _ _).1 hx with h1 | h1
   ·rw [h1] at hne; exact absurd rfl hne
   ·have : hasI l x.1 = true := (hasI_iff _ _).2 ⟨x, h1.1, rfl⟩
    rw [hh] at this
    cases this
theorem getI_del_ne {l : List (Int × Int)} (h : Ris l) {k k' : Int} (hne : k' ≠ k) : getI (delI l k) k' = getI l k' := by
 cases hh : hasI l k' with
 | true =>
  have h1 := getI_has h hh
  exact getI_mem (p := (k', getI l k')) (h.del k) ((mem_delI _ _ _).2 ⟨h1, hne⟩)
 | false =>
  rw [getI_none hh]
  apply getI_none
  cases e : hasI (delI l k) k' with
  | false => rfl
  | true =>
   obtain ⟨x, hx, rfl⟩ := (hasI_iff _ _).1 e
   have : hasI l x.1 = true := (hasI_iff _ _).2 ⟨x, ((mem_delI _ _ _).1 hx).1, rfl⟩
   rw [hh] at this
   cases this
theorem getI_del {l : List (Int × Int)} (k : Int) : getI (delI l k) k = 0 := by
 apply getI_none
 cases e : hasI (delI l k) k with
 | false => rfl
 | true =>
  obtain ⟨x, hx, rfl⟩ := (hasI_iff _ _).1 e
  exact absurd rfl ((mem_delI _ _ _).1 hx).2
theorem Pq.pin {q : List (Int × Int)} {ps : List Int} (h : Pq q ps) (v : Int) : Pq (pinQ q v) (ps ++ [v]) := by
 unfold pinQ
 have hc := h.cnt v
 refine ⟨h.ris.put _ _, fun u => ?_, fun x hx => ?_⟩
 ·rw [List.count_append]
  by_cases e : u = v
  ·subst e
   rw [getI_put h.ris, hc]
   simp
  ·rw [getI_put_ne h.ris e, h.cnt u, List.count_singleton]
   simp [show ¬ v = u from fun e' => e e'.symm]
 ·rcases (mem_putI _ _ _ _).1 hx with rfl | h1
  ·show 1 ≤ getI q v + 1
   omega
  ·exact h.pos x h1.1
theorem Pq.unpin {q : List (Int × Int)} {ps : List Int} (h : Pq q ps) {v : Int} (hv : v ∈ ps) : Pq (unQ q v) (ps.erase v) := by
 have hc := h.cnt v
 have hp : 0 < ps.count v := List.count_pos_iff.2 hv
 unfold unQ
 by_cases e1 : getI q v = 1
 ·rw [if_pos e1]
  refine ⟨h.ris.del _, fun u => ?_, fun x hx => h.pos x ((mem_delI _ _ _).1 hx).1⟩
  by_cases e : u = v
  ·subst e
   rw [getI_del, List.count_erase_self]
   omega
  ·rw [getI_del_ne h.ris e, h.cnt u, List.count_erase_of_ne e]
 ·rw [if_neg e1]
  refine ⟨h.ris.put _ _, fun u => ?_, fun x hx => ?_⟩
  ·by_cases e : u = v
   ·subst e
    rw [getI_put h.ris, List.count_erase_self]
    omega
   ·rw [getI_put_ne h.ris e, h.cnt u, List.count_erase_of_ne e]
  ·rcases (mem_putI _ _ _ _).1 hx with rfl | h1
   ·show 1 ≤ getI q v - 1
    omega
   ·exact h.pos x h1.1
theorem Pq.len {q : List (Int × Int)} {ps : List Int} (h : Pq q ps) : q.length ≤ ps.length := by
 have h1 : (q.map (·.1)).Nodup := h.ris.keys.imp fun {a b} hab => by omega
 have := nodup_le h1 (fun x hx => by
  obtain ⟨y, hy, rfl⟩ := List.mem_map.1 hx
  exact (h.has y.1).2 ⟨y, hy, rfl⟩)
 simpa using this
theorem Pq.get {q : List (Int × Int)} {ps : List Int} (h : Pq q ps) (v : Int) : 0 ≤ getI q v ∧ getI q v ≤ ps.length ∧ (getI q v = 0 ↔ v ∉ ps) := by
 have h1 := h.cnt v
 have h2 := List.count_le_length (a := v) (l := ps)
 refine ⟨by omega, by omega, ?_⟩
 rw [h1]
 constructor
 ·intro e hv
  have := List.count_pos_iff.2 hv
  omega
 ·intro hv
  have := List.count_eq_zero.2 hv
  omega
theorem ok_commit {p : Po} (ok : Ok p) {d : Int} {g : List Int} (v : Int) (hf : 0 ≤ lsP p d g) (hr : d ≤ rm p - lsP p d g) : Ok (cmP p d g v) := by
 obtain ⟨hd0, hm⟩ := may_of_ls hf
 unfold mayP noF at hm
 rw [Bool.and_eq_true, rp_iff] at hm
 have hN : ((cmN p d g : Nat) : Int) = d + lsP p d g := by unfold cmN; omega
 have hc2 := ok.c2
 have hck := ok.ck
 have hk := ok.k
 have hc : (cmP p d g v).c = p.c + ((cmN p d g - (us p).length : Nat) : Int) := rfl
 have hkk : (cmP p d g v).k = p.k := rfl
 unfold rm at hr
 refine ⟨by omega, by omega, by omega, fun x hx => ?_⟩
 rcases (mem_puts _ _ _ _).1 hx with h1 | h1
 ·have := hm.2.2 _ h1.1
  omega
 ·have h2 : x ∈ dels p.l ((us p).take (cmN p d g)) := h1.1
  have := ok.l x ((mem_dels _ _ _).1 h2).1
  omega
end Go.Proofs.YtcfmkpgfeodhaaaGreatDoor
namespace Go.Proofs.YtcfmkpgfeodhaaaGreatDoor
open Go.RowKit Go.Maps
structure Opq where
 k : Int
 a : Int
 b : Int
 ao : Option Addr
 n : Nat
 c : Nat
 g : List Int
 sec : Bool
structure Opm (w : World) (o : Opq) : Prop where
 nt : Nt w o.ao o.g
 ln : o.g.length = o.n
 wf : Wf o.g
 ha : -9223372036854775808 ≤ o.a ∧ o.a ≤ 9223372036854775807
 hb : -9223372036854775808 ≤ o.b ∧ o.b ≤ 9223372036854775807
 low : ∀ ad, o.ao = some ad → 0 < o.n → ad.block < w.heap.size
structure Opl (w : World) (a : Option Addr) (ops : List Opq) : Prop where
 ats : ∀ j o, ops[j]? = some o → Opm w o ∧ ∃ b off, a = some ⟨b, off, none⟩ ∧ w.cell? ⟨b, off + j * 5, none⟩ = some (.int .i64 o.k) ∧ w.cell? ⟨b, off + j * 5 + 1, none⟩ = some (.int .i64 o.a) ∧ w.cell? ⟨b, off + j * 5 + 2, none⟩ = some (.int .i64 o.b) ∧ w.cell? ⟨b, off + j * 5 + 3, none⟩ = some (.slice o.ao o.n o.c) ∧ w.cell? ⟨b, off + j * 5 + 4, none⟩ = some (.bool o.sec)
theorem Opm.keptN {w w' : World} {o : Opq} (h : Opm w o) (hg : w.grownBy w' none) : Opm w' o := ⟨h.nt.keptN hg, h.ln, h.wf, h.ha, h.hb, fun ad e h0 => Nat.lt_of_lt_of_le (h.low ad e h0) hg.size⟩
end Go.Proofs.YtcfmkpgfeodhaaaGreatDoor
