import Derived.Test.YtoecgpckkodmcabGreatQ51
import Derived.Test.YtoecgpckkodmcabGreatQ25
import Derived.Test.YtoecgpckkodmcabGreatQ27
namespace Go.Proofs.YtoecgpckkodmcabGreat
theorem getO_look {t : Option TrT} (h : OkO t) (key : List Int) : getO t key = lookT (flatO t) key := by
 cases t with
 | none => rfl
 | some t => exact get_look t.lv t.root key h
theorem find_nil : ∀ (L : List PrT), findT L [] = 0
 | [] => rfl
 | x :: L => by
  rw [find_consW, if_neg]
  intro h
  cases hx : x.key with
  | nil => rw [hx] at h; simp [cmpZ] at h
  | cons a l => rw [hx] at h; simp [cmpZ] at h
end Go.Proofs.YtoecgpckkodmcabGreat
