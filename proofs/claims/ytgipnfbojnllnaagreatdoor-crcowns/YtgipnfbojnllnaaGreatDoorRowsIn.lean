import Derived.Test.YtgipnfbojnllnaaGreatDoorCrc1
import Derived.Test.YtgipnfbojnllnaaGreatDoorCrcOwnsW
import Derived.ProofKit
import Derived.LaidMore
import Derived.OpenShut
import Derived.Stop.Joined
import Derived.Deep.Slices
namespace Go.Proofs.YtgipnfbojnllnaaGreatDoor
open Go.ChangeShapes Go.WideShapes Go.ChangeAt Go.WideMaps Go.WideElems Go.RowKit Go.Deep

theorem gTab : Tryz.prog.globalNamed "coppice/crc.fourSteps" = some 0 := by kernel_rfl
theorem tTab : (Tryz.prog.globals[0]?).map (·.type) = some 147 := by kernel_rfl
theorem door_met4 (os : Os) (args : Array Value) : laidMetH Tryz.prog [("math/bits.deBruijn32tab", Rows.laid_math_bits_deBruijn32tab), ("math/bits.deBruijn64tab", Rows.laid_math_bits_deBruijn64tab), ("internal/strconv.uint64pow10", Rows.laid_internal_strconv_uint64pow10), ("coppice/crc.fourSteps", Rows.laid_coppice_crc_fourSteps)] ((World.doorLaid Tryz.prog 400 os).forCall (fun _ _ => 0) ⟨#[], args, []⟩).memory :=
  laidMetH_of_parts3 (fuel := 8) (laidMet_of_run' 8 (by kernel_rfl) (by kernel_rfl)) (by kernel_rfl) (by kernel_rfl)

theorem laid_at : ∀ i, i < 16 → ∃ xs : List (DataW Unit), Rows.laid_coppice_crc_fourSteps (H := Unit) = .agg xs ∧ xs[i]? = some (.lit (.int .u32 ((tab.getD i 0 : Nat) : Int)))
  | 0, _ => ⟨_, rfl, rfl⟩
  | 1, _ => ⟨_, rfl, rfl⟩
  | 2, _ => ⟨_, rfl, rfl⟩
  | 3, _ => ⟨_, rfl, rfl⟩
  | 4, _ => ⟨_, rfl, rfl⟩
  | 5, _ => ⟨_, rfl, rfl⟩
  | 6, _ => ⟨_, rfl, rfl⟩
  | 7, _ => ⟨_, rfl, rfl⟩
  | 8, _ => ⟨_, rfl, rfl⟩
  | 9, _ => ⟨_, rfl, rfl⟩
  | 10, _ => ⟨_, rfl, rfl⟩
  | 11, _ => ⟨_, rfl, rfl⟩
  | 12, _ => ⟨_, rfl, rfl⟩
  | 13, _ => ⟨_, rfl, rfl⟩
  | 14, _ => ⟨_, rfl, rfl⟩
  | 15, _ => ⟨_, rfl, rfl⟩
  | n + 16, h => absurd h (by omega)

theorem of_laid4 {W : World} (h : laidMetH Tryz.prog [("math/bits.deBruijn32tab", Rows.laid_math_bits_deBruijn32tab), ("math/bits.deBruijn64tab", Rows.laid_math_bits_deBruijn64tab), ("internal/strconv.uint64pow10", Rows.laid_internal_strconv_uint64pow10), ("coppice/crc.fourSteps", Rows.laid_coppice_crc_fourSteps)] W) : Tab W := by
  rw [MakeChecks.laidMetH_plain _ _ _ (by kernel_rfl)] at h
  obtain ⟨ps, ⟨g0, t0, cs0, f0, p0, q0, _, _, _, _, ⟨g1, t1, cs1, f1, p1, q1, _, _, _, _, ⟨g2, t2, cs2, f2, p2, q2, _, _, _, _, ⟨g3, t3, cs3, f3, p3, q3, hg3, ht3, hv3, hd3, _⟩, _⟩, _⟩, _⟩, _, _⟩ := h
  obtain rfl := Option.some.inj (gTab.symm.trans hg3)
  obtain rfl := Option.some.inj (tTab.symm.trans ht3)
  obtain ⟨xs, m1, rfl, hx1, hlen, hn3, hel⟩ := DataW.trod_array Tryz.underlying147 hd3
  have c3 : Tryz.prog.cellsOf 69 = 1 := by kernel_rfl
  intro i hi
  have h0 := hel i hi
  rw [c3, Nat.mul_one] at h0
  obtain ⟨x, hx⟩ : ∃ x, xs[i]? = some x := ⟨_, List.getElem?_eq_getElem (by omega)⟩
  rw [hx] at h0
  obtain ⟨k, e1, e2, _⟩ := DataW.trod_int Tryz.underlying69 h0
  have hm : (xs.map (fun x => x.fst))[i]? = some (.lit (.int .u32 k)) := by rw [List.getElem?_map, hx, e2]; rfl
  obtain ⟨ys, hy, hyi⟩ := laid_at i hi
  rw [hy] at hx1
  simp only [Prod.mk.injEq, DataW.agg.injEq] at hx1
  rw [← hx1.1, hyi] at hm
  have hk : ((tab.getD i 0 : Nat) : Int) = k := by simpa using hm
  rw [hk]
  have hv := World.var?_cell hg3 hv3 i
  rw [hv]
  have e3 := congrArg (fun l => l[0]?) e1
  rw [← Array.getElem?_toList]
  simpa using e3
theorem cells_bytes : Tryz.prog.cellsOf 22 = 1 := by kernel_rfl
theorem cell_plain {w : World} {a : Addr} {v : Value} (h : w.cell? a = some v) : ∃ b off, a = ⟨b, off, none⟩ := by
  obtain ⟨b, off, spot⟩ := a
  have : spot = none := World.cell?_spot h
  exact ⟨b, off, by rw [this]⟩

theorem bytes_open {H : Type} {enc : TypeId × Value → H} {w : World} {base : Nat} {held : Bool} {fuel : Nat} {cs : List Value} {x : DataW H × List MemPlace}
    (h : DataW.trod enc Tryz.prog w base (fun _ => true) held fuel 22 cs = some x) : ∃ ao n c zs, cs = [.slice ao n c] ∧ Byt w ao n c zs ∧ Bt zs := by
  rcases open_ints Tryz.underlying22 Tryz.underlying5 (by kernel_rfl) h with ⟨hcs, _⟩ | ⟨x, l, c, zs, hcs, _, hl, hm, hz, _, hcell, hwz⟩
  · exact ⟨none, 0, 0, [], hcs, Byt.empty w, Bt.nil⟩
  · obtain ⟨h1, h2, _, _⟩ := byt_of_row (zs := zs) (.inr ⟨_, rfl, hl, hm, by simpa using hz, hcell, hwz⟩)
    exact ⟨_, _, _, _, hcs, h1, h2⟩

theorem rows_open {H : Type} {enc : TypeId × Value → H} {w : World} {base : Nat} {held : Bool} {fuel : Nat} {a : Option Addr} {len cap : Nat} {x : DataW H × List MemPlace}
    (h : DataW.trod enc Tryz.prog w base (fun _ => true) held fuel 26 [.slice a len cap] = some x) : Ll w a len := by
  rcases open_slice Tryz.underlying26 h with ⟨hcs, _⟩ | ⟨ad, l, c, m, n, D, Pl, hcs, _, hl, hm, hmm, _, hel⟩
  · simp at hcs
    obtain ⟨rfl, rfl, rfl⟩ := hcs
    exact ⟨fun i hi => by omega⟩
  · simp at hcs
    obtain ⟨rfl, rfl, rfl⟩ := hcs
    have hlm : len ≤ m := by rw [hmm]; split <;> omega
    have each : ∀ i, i < len → ∃ ao n c zs, w.cell? ((ad.add (i * 1)).add 0) = some (.slice ao n c) ∧ Byt w ao n c zs ∧ Bt zs := by
      intro i hi
      obtain ⟨cs', h1, h2⟩ := hel i (by omega)
      rw [cells_bytes] at h1
      obtain ⟨ao, n2, c2, zs, rfl, hb, bt⟩ := bytes_open h2
      obtain ⟨_, _, hc⟩ := World.cells?_some h1
      exact ⟨ao, n2, c2, zs, by simpa using hc 0 (by omega), hb, bt⟩
    clear hel
    refine ⟨fun i hi => ?_⟩
    obtain ⟨b, off, rfl⟩ : ∃ b off, ad = ⟨b, off, none⟩ := by
      obtain ⟨_, _, _, _, h6, _, _⟩ := each 0 (by omega)
      have e' : (ad.add (0 * 1)).add 0 = ad := by simp [Addr.add]
      rw [e'] at h6
      exact cell_plain h6
    obtain ⟨ao, n2, c2, zs, h3, hb, bt⟩ := each i hi
    refine ⟨b, off, ao, n2, c2, zs, rfl, ?_, hb, bt⟩
    simp only [Addr.add_lit, Nat.mul_one, Nat.add_zero] at h3
    exact h3
end Go.Proofs.YtgipnfbojnllnaaGreatDoor
