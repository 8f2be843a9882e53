import Derived.Test.YtdoclmmghdaaaaaGreatDoorGrpS
namespace Go.Proofs.YtdoclmmghdaaaaaGreatDoor
open Go.RowKit

def lt6s : List UInt8 := [65, 66, 67, 75, 86, 72]
/-- What the document's filled answers. -/
def FlP (w : World) (B : Nat) (o : Opq) (kv vv hv fv : Value) (r : Except Int Opq) (en : Ending) (w' : World) : Prop := w.grownBy w' none ∧ ((∃ o' kv' vv' hv' fv', r = .ok o' ∧ en = .returned (.tuple #[.agg #[.int .i64 o'.k, .int .i64 o'.a, .int .i64 o'.b, .int .i64 o'.c, kv', vv', hv', fv'], .int .i64 0]) ∧ OpV w' B o' kv' vv' hv' fv') ∨ ∃ e, r = .error e ∧ e ≠ 0 ∧ en = .returned (.tuple #[.agg #[.int .i64 o.k, .int .i64 o.a, .int .i64 o.b, .int .i64 o.c, kv, vv, hv, fv], .int .i64 e]))
set_option maxHeartbeats 8000000 in
set_option maxRecDepth 100000 in
theorem refFilled_65 (o : Opq) (ka : Option Addr) (kc : Nat) (va : Option Addr) (vc : Nat) (ha : Option Addr) (hc : Nat) (fa : Option Addr) (fc : Nat) (T : List UInt8) (w : World) (B : Nat) (hB : B ≤ w.heap.size) (hV : OpV w B o (.slice ka o.key.length kc) (.slice va o.val.length vc) (.slice ha o.hi.length hc) (.slice fa o.f.length fc)) (hT : T.length ≤ 2000000000) :
    Calls Tryz.prog 41 #[.agg #[.int .i64 o.k, .int .i64 o.a, .int .i64 o.b, .int .i64 o.c, .slice ka o.key.length kc, .slice va o.val.length vc, .slice ha o.hi.length hc, .slice fa o.f.length fc], .int .u8 65, .string (tstr T)] w fun en w' => FlP w B o (.slice ka o.key.length kc) (.slice va o.val.length vc) (.slice ha o.hi.length hc) (.slice fa o.f.length fc) (fld o 65 T) en w' := by
  have g1 := World.grownBy_alloc w (.cells #[.int .i64 o.k, .int .i64 o.a, .int .i64 o.b, .int .i64 o.c, .slice ka o.key.length kc, .slice va o.val.length vc, .slice ha o.hi.length hc, .slice fa o.f.length fc] 49) none
  have g2 := World.grownBy_alloc (w.alloc (.cells #[.int .i64 o.k, .int .i64 o.a, .int .i64 o.b, .int .i64 o.c, .slice ka o.key.length kc, .slice va o.val.length vc, .slice ha o.hi.length hc, .slice fa o.f.length fc] 49)) (.cells #[.int .i64 0, .int .i64 0, .int .i64 0, .int .i64 0, .slice none 0 0, .slice none 0 0, .slice none 0 0, .slice none 0 0] 49) none
  have xP := heap_keptS (heap_at0S w #[.int .i64 o.k, .int .i64 o.a, .int .i64 o.b, .int .i64 o.c, .slice ka o.key.length kc, .slice va o.val.length vc, .slice ha o.hi.length hc, .slice fa o.f.length fc] 49) g2
  have xU := heap_at0S (w.alloc (.cells #[.int .i64 o.k, .int .i64 o.a, .int .i64 o.b, .int .i64 o.c, .slice ka o.key.length kc, .slice va o.val.length vc, .slice ha o.hi.length hc, .slice fa o.f.length fc] 49)) #[.int .i64 0, .int .i64 0, .int .i64 0, .int .i64 0, .slice none 0 0, .slice none 0 0, .slice none 0 0, .slice none 0 0] 49
  rw [size_allocD] at xU
  have XP := hid_intro xP
  have XU := hid_intro xU
  have G2 := hid_intro (grown_trans g1 g2)
  have V2 := hid_intro (hV.keptN G2.out)
  have HN := hid_intro (fun W => refNumber23 T W (by omega))
  have HF : Hid (fld o 65 T = (nmE T).map fun n => { o with a := n }) := by show _ = _; unfold fld; rw [if_pos rfl]
  clear g1 g2 xP xU hV hT
  generalize fld o 65 T = FR at *
  generalize tstr T = s at *
  go_enter Tryz.func41, Tryz.ntmps41
  go_upto_region 1 with fail
  generalize (w.alloc (.cells #[.int .i64 o.k, .int .i64 o.a, .int .i64 o.b, .int .i64 o.c, .slice ka o.key.length kc, .slice va o.val.length vc, .slice ha o.hi.length hc, .slice fa o.f.length fc] 49)).alloc (.cells #[.int .i64 0, .int .i64 0, .int .i64 0, .int .i64 0, .slice none 0 0, .slice none 0 0, .slice none 0 0, .slice none 0 0] 49) = w2 at *
  have HPW : Hid (w.heap.size ≤ w.heap.size) := Nat.le_refl w.heap.size
  have HPW1 : Hid (w.heap.size ≤ w.heap.size + 1) := Nat.le_succ _
  have HB : Hid (B ≤ w.heap.size) := hB
  clear hB
  obtain ⟨P, hP⟩ : ∃ P, w.heap.size = P := ⟨_, rfl⟩
  have HPE := hid_intro hP
  rw [hP] at XP XU ⊢
  have HPW : Hid (w.heap.size ≤ P) := by show _ ≤ _; rw [hP]; exact Nat.le_refl _
  have HPW1 : Hid (w.heap.size ≤ P + 1) := by show _ ≤ _; rw [hP]; exact Nat.le_succ _
  clear hP
  go_wp2_with fail
  refine (HN.out _).mono ?_
  rintro en w3 ⟨hn, hw3⟩
  rw [hw3]
  clear hw3
  rcases num_split hn with ⟨n, e1, rfl⟩ | ⟨e1, z, rfl⟩
  · rw [e1] at HF
    clear hn e1
    have e0 := cell_heapS (i := 0) XP.out rfl
    have ze0 := frozen_of_row w2 P 0 _ _ XP.out
    have e1 := cell_heapS (i := 1) XP.out rfl
    have ze1 := frozen_of_row w2 P 1 _ _ XP.out
    have e2 := cell_heapS (i := 2) XP.out rfl
    have ze2 := frozen_of_row w2 P 2 _ _ XP.out
    have e3 := cell_heapS (i := 3) XP.out rfl
    have ze3 := frozen_of_row w2 P 3 _ _ XP.out
    have e4 := cell_heapS (i := 4) XP.out rfl
    have ze4 := frozen_of_row w2 P 4 _ _ XP.out
    have e5 := cell_heapS (i := 5) XP.out rfl
    have ze5 := frozen_of_row w2 P 5 _ _ XP.out
    have e6 := cell_heapS (i := 6) XP.out rfl
    have ze6 := frozen_of_row w2 P 6 _ _ XP.out
    have e7 := cell_heapS (i := 7) XP.out rfl
    have ze7 := frozen_of_row w2 P 7 _ _ XP.out
    go_upto_region 21 with fail
    have XP4 := hid_intro (heap_setCell_same w2 P 1 _ _ (.int .i64 n) XP.out)
    have gc := grown_cellS w2 P 1 (.int .i64 n)
    have XU4 : Hid ((w2.setCell ⟨P, 1, none⟩ (.int .i64 n)).heap[P + 1]? = some (.cells #[.int .i64 0, .int .i64 0, .int .i64 0, .int .i64 0, .slice none 0 0, .slice none 0 0, .slice none 0 0, .slice none 0 0] 49 (0, 0))) := by
      show _ = _
      rw [gc.block (P + 1) (Array.getElem?_eq_some_iff.1 XU.out).1 (by simp)]
      exact XU.out
    have V4 := hid_intro (V2.out.one XP.out (by decide) (by decide) gc)
    have G4 := hid_intro (grown_new G2.out gc HPW.out)
    generalize w2.setCell ⟨P, 1, none⟩ (.int .i64 n) = w4 at *
    clear gc
    clear e0 ze0
    clear e1 ze1
    clear e2 ze2
    clear e3 ze3
    clear e4 ze4
    clear e5 ze5
    clear e6 ze6
    clear e7 ze7
    have d0 := cell_heapS (i := 0) XP4.out rfl
    have d1 := cell_heapS (i := 1) XP4.out rfl
    have d2 := cell_heapS (i := 2) XP4.out rfl
    have d3 := cell_heapS (i := 3) XP4.out rfl
    have d4 := cell_heapS (i := 4) XP4.out rfl
    have d5 := cell_heapS (i := 5) XP4.out rfl
    have d6 := cell_heapS (i := 6) XP4.out rfl
    have d7 := cell_heapS (i := 7) XP4.out rfl
    have u0 := cell_heapS (i := 0) XU4.out rfl
    have zu0 := frozen_of_row w4 (P + 1) 0 _ _ XU4.out
    have u1 := cell_heapS (i := 1) XU4.out rfl
    have zu1 := frozen_of_row w4 (P + 1) 1 _ _ XU4.out
    have u2 := cell_heapS (i := 2) XU4.out rfl
    have zu2 := frozen_of_row w4 (P + 1) 2 _ _ XU4.out
    have u3 := cell_heapS (i := 3) XU4.out rfl
    have zu3 := frozen_of_row w4 (P + 1) 3 _ _ XU4.out
    have u4 := cell_heapS (i := 4) XU4.out rfl
    have zu4 := frozen_of_row w4 (P + 1) 4 _ _ XU4.out
    have u5 := cell_heapS (i := 5) XU4.out rfl
    have zu5 := frozen_of_row w4 (P + 1) 5 _ _ XU4.out
    have u6 := cell_heapS (i := 6) XU4.out rfl
    have zu6 := frozen_of_row w4 (P + 1) 6 _ _ XU4.out
    have u7 := cell_heapS (i := 7) XU4.out rfl
    have zu7 := frozen_of_row w4 (P + 1) 7 _ _ XU4.out
    go_wp2
    obtain ⟨y1, y2⟩ := box8_put XU4.out (.int .i64 o.k) (.int .i64 n) (.int .i64 o.b) (.int .i64 o.c) (.slice ka o.key.length kc) (.slice va o.val.length vc) (.slice ha o.hi.length hc) (.slice fa o.f.length fc)
    refine bodyPost_ret (results_aop rfl _ _ (P + 1) _ _ _ _ _ _ _ _ rfl y1) rfl ?_
    refine ⟨grown_new G4.out y2 HPW1.out, .inl ⟨_, _, _, _, _, HF.out, rfl, ?_⟩⟩
    have V5 := V4.out.one XU4.out (by decide) (by decide) y2
    exact ⟨V5.key, V5.val, V5.hi, V5.f, V5.bk, V5.bv, V5.bh⟩
  · rw [e1] at HF
    clear hn e1
    have XP4 := hid_intro XP.out
    have d0 := cell_heapS (i := 0) XP4.out rfl
    have d1 := cell_heapS (i := 1) XP4.out rfl
    have d2 := cell_heapS (i := 2) XP4.out rfl
    have d3 := cell_heapS (i := 3) XP4.out rfl
    have d4 := cell_heapS (i := 4) XP4.out rfl
    have d5 := cell_heapS (i := 5) XP4.out rfl
    have d6 := cell_heapS (i := 6) XP4.out rfl
    have d7 := cell_heapS (i := 7) XP4.out rfl
    have u0 := cell_heapS (i := 0) XU.out rfl
    have zu0 := frozen_of_row w2 (P + 1) 0 _ _ XU.out
    have u1 := cell_heapS (i := 1) XU.out rfl
    have zu1 := frozen_of_row w2 (P + 1) 1 _ _ XU.out
    have u2 := cell_heapS (i := 2) XU.out rfl
    have zu2 := frozen_of_row w2 (P + 1) 2 _ _ XU.out
    have u3 := cell_heapS (i := 3) XU.out rfl
    have zu3 := frozen_of_row w2 (P + 1) 3 _ _ XU.out
    have u4 := cell_heapS (i := 4) XU.out rfl
    have zu4 := frozen_of_row w2 (P + 1) 4 _ _ XU.out
    have u5 := cell_heapS (i := 5) XU.out rfl
    have zu5 := frozen_of_row w2 (P + 1) 5 _ _ XU.out
    have u6 := cell_heapS (i := 6) XU.out rfl
    have zu6 := frozen_of_row w2 (P + 1) 6 _ _ XU.out
    have u7 := cell_heapS (i := 7) XU.out rfl
    have zu7 := frozen_of_row w2 (P + 1) 7 _ _ XU.out
    go_wp2
    obtain ⟨y1, y2⟩ := box8_put XU.out (.int .i64 o.k) (.int .i64 o.a) (.int .i64 o.b) (.int .i64 o.c) (.slice ka o.key.length kc) (.slice va o.val.length vc) (.slice ha o.hi.length hc) (.slice fa o.f.length fc)
    refine bodyPost_ret (results_aop rfl _ _ (P + 1) _ _ _ _ _ _ _ _ rfl y1) rfl ?_
    exact ⟨grown_new G2.out y2 HPW1.out, .inr ⟨232, HF.out, by decide, rfl⟩⟩
set_option maxHeartbeats 8000000 in
set_option maxRecDepth 100000 in
theorem refFilled_66 (o : Opq) (ka : Option Addr) (kc : Nat) (va : Option Addr) (vc : Nat) (ha : Option Addr) (hc : Nat) (fa : Option Addr) (fc : Nat) (T : List UInt8) (w : World) (B : Nat) (hB : B ≤ w.heap.size) (hV : OpV w B o (.slice ka o.key.length kc) (.slice va o.val.length vc) (.slice ha o.hi.length hc) (.slice fa o.f.length fc)) (hT : T.length ≤ 2000000000) :
    Calls Tryz.prog 41 #[.agg #[.int .i64 o.k, .int .i64 o.a, .int .i64 o.b, .int .i64 o.c, .slice ka o.key.length kc, .slice va o.val.length vc, .slice ha o.hi.length hc, .slice fa o.f.length fc], .int .u8 66, .string (tstr T)] w fun en w' => FlP w B o (.slice ka o.key.length kc) (.slice va o.val.length vc) (.slice ha o.hi.length hc) (.slice fa o.f.length fc) (fld o 66 T) en w' := by
  have g1 := World.grownBy_alloc w (.cells #[.int .i64 o.k, .int .i64 o.a, .int .i64 o.b, .int .i64 o.c, .slice ka o.key.length kc, .slice va o.val.length vc, .slice ha o.hi.length hc, .slice fa o.f.length fc] 49) none
  have g2 := World.grownBy_alloc (w.alloc (.cells #[.int .i64 o.k, .int .i64 o.a, .int .i64 o.b, .int .i64 o.c, .slice ka o.key.length kc, .slice va o.val.length vc, .slice ha o.hi.length hc, .slice fa o.f.length fc] 49)) (.cells #[.int .i64 0, .int .i64 0, .int .i64 0, .int .i64 0, .slice none 0 0, .slice none 0 0, .slice none 0 0, .slice none 0 0] 49) none
  have xP := heap_keptS (heap_at0S w #[.int .i64 o.k, .int .i64 o.a, .int .i64 o.b, .int .i64 o.c, .slice ka o.key.length kc, .slice va o.val.length vc, .slice ha o.hi.length hc, .slice fa o.f.length fc] 49) g2
  have xU := heap_at0S (w.alloc (.cells #[.int .i64 o.k, .int .i64 o.a, .int .i64 o.b, .int .i64 o.c, .slice ka o.key.length kc, .slice va o.val.length vc, .slice ha o.hi.length hc, .slice fa o.f.length fc] 49)) #[.int .i64 0, .int .i64 0, .int .i64 0, .int .i64 0, .slice none 0 0, .slice none 0 0, .slice none 0 0, .slice none 0 0] 49
  rw [size_allocD] at xU
  have XP := hid_intro xP
  have XU := hid_intro xU
  have G2 := hid_intro (grown_trans g1 g2)
  have V2 := hid_intro (hV.keptN G2.out)
  have HN := hid_intro (fun W => refNumber23 T W (by omega))
  have HF : Hid (fld o 66 T = (nmE T).map fun n => { o with b := n }) := by show _ = _; unfold fld; rw [if_neg (by decide), if_pos rfl]
  clear g1 g2 xP xU hV hT
  generalize fld o 66 T = FR at *
  generalize tstr T = s at *
  go_enter Tryz.func41, Tryz.ntmps41
  go_upto_region 1 with fail
  generalize (w.alloc (.cells #[.int .i64 o.k, .int .i64 o.a, .int .i64 o.b, .int .i64 o.c, .slice ka o.key.length kc, .slice va o.val.length vc, .slice ha o.hi.length hc, .slice fa o.f.length fc] 49)).alloc (.cells #[.int .i64 0, .int .i64 0, .int .i64 0, .int .i64 0, .slice none 0 0, .slice none 0 0, .slice none 0 0, .slice none 0 0] 49) = w2 at *
  have HPW : Hid (w.heap.size ≤ w.heap.size) := Nat.le_refl w.heap.size
  have HPW1 : Hid (w.heap.size ≤ w.heap.size + 1) := Nat.le_succ _
  have HB : Hid (B ≤ w.heap.size) := hB
  clear hB
  obtain ⟨P, hP⟩ : ∃ P, w.heap.size = P := ⟨_, rfl⟩
  have HPE := hid_intro hP
  rw [hP] at XP XU ⊢
  have HPW : Hid (w.heap.size ≤ P) := by show _ ≤ _; rw [hP]; exact Nat.le_refl _
  have HPW1 : Hid (w.heap.size ≤ P + 1) := by show _ ≤ _; rw [hP]; exact Nat.le_succ _
  clear hP
  go_wp2_with fail
  refine (HN.out _).mono ?_
  rintro en w3 ⟨hn, hw3⟩
  rw [hw3]
  clear hw3
  rcases num_split hn with ⟨n, e1, rfl⟩ | ⟨e1, z, rfl⟩
  · rw [e1] at HF
    clear hn e1
    have e0 := cell_heapS (i := 0) XP.out rfl
    have ze0 := frozen_of_row w2 P 0 _ _ XP.out
    have e1 := cell_heapS (i := 1) XP.out rfl
    have ze1 := frozen_of_row w2 P 1 _ _ XP.out
    have e2 := cell_heapS (i := 2) XP.out rfl
    have ze2 := frozen_of_row w2 P 2 _ _ XP.out
    have e3 := cell_heapS (i := 3) XP.out rfl
    have ze3 := frozen_of_row w2 P 3 _ _ XP.out
    have e4 := cell_heapS (i := 4) XP.out rfl
    have ze4 := frozen_of_row w2 P 4 _ _ XP.out
    have e5 := cell_heapS (i := 5) XP.out rfl
    have ze5 := frozen_of_row w2 P 5 _ _ XP.out
    have e6 := cell_heapS (i := 6) XP.out rfl
    have ze6 := frozen_of_row w2 P 6 _ _ XP.out
    have e7 := cell_heapS (i := 7) XP.out rfl
    have ze7 := frozen_of_row w2 P 7 _ _ XP.out
    go_upto_region 21 with fail
    have XP4 := hid_intro (heap_setCell_same w2 P 2 _ _ (.int .i64 n) XP.out)
    have gc := grown_cellS w2 P 2 (.int .i64 n)
    have XU4 : Hid ((w2.setCell ⟨P, 2, none⟩ (.int .i64 n)).heap[P + 1]? = some (.cells #[.int .i64 0, .int .i64 0, .int .i64 0, .int .i64 0, .slice none 0 0, .slice none 0 0, .slice none 0 0, .slice none 0 0] 49 (0, 0))) := by
      show _ = _
      rw [gc.block (P + 1) (Array.getElem?_eq_some_iff.1 XU.out).1 (by simp)]
      exact XU.out
    have V4 := hid_intro (V2.out.one XP.out (by decide) (by decide) gc)
    have G4 := hid_intro (grown_new G2.out gc HPW.out)
    generalize w2.setCell ⟨P, 2, none⟩ (.int .i64 n) = w4 at *
    clear gc
    clear e0 ze0
    clear e1 ze1
    clear e2 ze2
    clear e3 ze3
    clear e4 ze4
    clear e5 ze5
    clear e6 ze6
    clear e7 ze7
    have d0 := cell_heapS (i := 0) XP4.out rfl
    have d1 := cell_heapS (i := 1) XP4.out rfl
    have d2 := cell_heapS (i := 2) XP4.out rfl
    have d3 := cell_heapS (i := 3) XP4.out rfl
    have d4 := cell_heapS (i := 4) XP4.out rfl
    have d5 := cell_heapS (i := 5) XP4.out rfl
    have d6 := cell_heapS (i := 6) XP4.out rfl
    have d7 := cell_heapS (i := 7) XP4.out rfl
    have u0 := cell_heapS (i := 0) XU4.out rfl
    have zu0 := frozen_of_row w4 (P + 1) 0 _ _ XU4.out
    have u1 := cell_heapS (i := 1) XU4.out rfl
    have zu1 := frozen_of_row w4 (P + 1) 1 _ _ XU4.out
    have u2 := cell_heapS (i := 2) XU4.out rfl
    have zu2 := frozen_of_row w4 (P + 1) 2 _ _ XU4.out
    have u3 := cell_heapS (i := 3) XU4.out rfl
    have zu3 := frozen_of_row w4 (P + 1) 3 _ _ XU4.out
    have u4 := cell_heapS (i := 4) XU4.out rfl
    have zu4 := frozen_of_row w4 (P + 1) 4 _ _ XU4.out
    have u5 := cell_heapS (i := 5) XU4.out rfl
    have zu5 := frozen_of_row w4 (P + 1) 5 _ _ XU4.out
    have u6 := cell_heapS (i := 6) XU4.out rfl
    have zu6 := frozen_of_row w4 (P + 1) 6 _ _ XU4.out
    have u7 := cell_heapS (i := 7) XU4.out rfl
    have zu7 := frozen_of_row w4 (P + 1) 7 _ _ XU4.out
    go_wp2
    obtain ⟨y1, y2⟩ := box8_put XU4.out (.int .i64 o.k) (.int .i64 o.a) (.int .i64 n) (.int .i64 o.c) (.slice ka o.key.length kc) (.slice va o.val.length vc) (.slice ha o.hi.length hc) (.slice fa o.f.length fc)
    refine bodyPost_ret (results_aop rfl _ _ (P + 1) _ _ _ _ _ _ _ _ rfl y1) rfl ?_
    refine ⟨grown_new G4.out y2 HPW1.out, .inl ⟨_, _, _, _, _, HF.out, rfl, ?_⟩⟩
    have V5 := V4.out.one XU4.out (by decide) (by decide) y2
    exact ⟨V5.key, V5.val, V5.hi, V5.f, V5.bk, V5.bv, V5.bh⟩
  · rw [e1] at HF
    clear hn e1
    have XP4 := hid_intro XP.out
    have d0 := cell_heapS (i := 0) XP4.out rfl
    have d1 := cell_heapS (i := 1) XP4.out rfl
    have d2 := cell_heapS (i := 2) XP4.out rfl
    have d3 := cell_heapS (i := 3) XP4.out rfl
    have d4 := cell_heapS (i := 4) XP4.out rfl
    have d5 := cell_heapS (i := 5) XP4.out rfl
    have d6 := cell_heapS (i := 6) XP4.out rfl
    have d7 := cell_heapS (i := 7) XP4.out rfl
    have u0 := cell_heapS (i := 0) XU.out rfl
    have zu0 := frozen_of_row w2 (P + 1) 0 _ _ XU.out
    have u1 := cell_heapS (i := 1) XU.out rfl
    have zu1 := frozen_of_row w2 (P + 1) 1 _ _ XU.out
    have u2 := cell_heapS (i := 2) XU.out rfl
    have zu2 := frozen_of_row w2 (P + 1) 2 _ _ XU.out
    have u3 := cell_heapS (i := 3) XU.out rfl
    have zu3 := frozen_of_row w2 (P + 1) 3 _ _ XU.out
    have u4 := cell_heapS (i := 4) XU.out rfl
    have zu4 := frozen_of_row w2 (P + 1) 4 _ _ XU.out
    have u5 := cell_heapS (i := 5) XU.out rfl
    have zu5 := frozen_of_row w2 (P + 1) 5 _ _ XU.out
    have u6 := cell_heapS (i := 6) XU.out rfl
    have zu6 := frozen_of_row w2 (P + 1) 6 _ _ XU.out
    have u7 := cell_heapS (i := 7) XU.out rfl
    have zu7 := frozen_of_row w2 (P + 1) 7 _ _ XU.out
    go_wp2
    obtain ⟨y1, y2⟩ := box8_put XU.out (.int .i64 o.k) (.int .i64 o.a) (.int .i64 o.b) (.int .i64 o.c) (.slice ka o.key.length kc) (.slice va o.val.length vc) (.slice ha o.hi.length hc) (.slice fa o.f.length fc)
    refine bodyPost_ret (results_aop rfl _ _ (P + 1) _ _ _ _ _ _ _ _ rfl y1) rfl ?_
    exact ⟨grown_new G2.out y2 HPW1.out, .inr ⟨232, HF.out, by decide, rfl⟩⟩
set_option maxHeartbeats 8000000 in
set_option maxRecDepth 100000 in
theorem refFilled_67 (o : Opq) (ka : Option Addr) (kc : Nat) (va : Option Addr) (vc : Nat) (ha : Option Addr) (hc : Nat) (fa : Option Addr) (fc : Nat) (T : List UInt8) (w : World) (B : Nat) (hB : B ≤ w.heap.size) (hV : OpV w B o (.slice ka o.key.length kc) (.slice va o.val.length vc) (.slice ha o.hi.length hc) (.slice fa o.f.length fc)) (hT : T.length ≤ 2000000000) :
    Calls Tryz.prog 41 #[.agg #[.int .i64 o.k, .int .i64 o.a, .int .i64 o.b, .int .i64 o.c, .slice ka o.key.length kc, .slice va o.val.length vc, .slice ha o.hi.length hc, .slice fa o.f.length fc], .int .u8 67, .string (tstr T)] w fun en w' => FlP w B o (.slice ka o.key.length kc) (.slice va o.val.length vc) (.slice ha o.hi.length hc) (.slice fa o.f.length fc) (fld o 67 T) en w' := by
  have g1 := World.grownBy_alloc w (.cells #[.int .i64 o.k, .int .i64 o.a, .int .i64 o.b, .int .i64 o.c, .slice ka o.key.length kc, .slice va o.val.length vc, .slice ha o.hi.length hc, .slice fa o.f.length fc] 49) none
  have g2 := World.grownBy_alloc (w.alloc (.cells #[.int .i64 o.k, .int .i64 o.a, .int .i64 o.b, .int .i64 o.c, .slice ka o.key.length kc, .slice va o.val.length vc, .slice ha o.hi.length hc, .slice fa o.f.length fc] 49)) (.cells #[.int .i64 0, .int .i64 0, .int .i64 0, .int .i64 0, .slice none 0 0, .slice none 0 0, .slice none 0 0, .slice none 0 0] 49) none
  have xP := heap_keptS (heap_at0S w #[.int .i64 o.k, .int .i64 o.a, .int .i64 o.b, .int .i64 o.c, .slice ka o.key.length kc, .slice va o.val.length vc, .slice ha o.hi.length hc, .slice fa o.f.length fc] 49) g2
  have xU := heap_at0S (w.alloc (.cells #[.int .i64 o.k, .int .i64 o.a, .int .i64 o.b, .int .i64 o.c, .slice ka o.key.length kc, .slice va o.val.length vc, .slice ha o.hi.length hc, .slice fa o.f.length fc] 49)) #[.int .i64 0, .int .i64 0, .int .i64 0, .int .i64 0, .slice none 0 0, .slice none 0 0, .slice none 0 0, .slice none 0 0] 49
  rw [size_allocD] at xU
  have XP := hid_intro xP
  have XU := hid_intro xU
  have G2 := hid_intro (grown_trans g1 g2)
  have V2 := hid_intro (hV.keptN G2.out)
  have HN := hid_intro (fun W => refNumber23 T W (by omega))
  have HF : Hid (fld o 67 T = (nmE T).map fun n => { o with c := n }) := by show _ = _; unfold fld; rw [if_neg (by decide), if_neg (by decide), if_pos rfl]
  clear g1 g2 xP xU hV hT
  generalize fld o 67 T = FR at *
  generalize tstr T = s at *
  go_enter Tryz.func41, Tryz.ntmps41
  go_upto_region 1 with fail
  generalize (w.alloc (.cells #[.int .i64 o.k, .int .i64 o.a, .int .i64 o.b, .int .i64 o.c, .slice ka o.key.length kc, .slice va o.val.length vc, .slice ha o.hi.length hc, .slice fa o.f.length fc] 49)).alloc (.cells #[.int .i64 0, .int .i64 0, .int .i64 0, .int .i64 0, .slice none 0 0, .slice none 0 0, .slice none 0 0, .slice none 0 0] 49) = w2 at *
  have HPW : Hid (w.heap.size ≤ w.heap.size) := Nat.le_refl w.heap.size
  have HPW1 : Hid (w.heap.size ≤ w.heap.size + 1) := Nat.le_succ _
  have HB : Hid (B ≤ w.heap.size) := hB
  clear hB
  obtain ⟨P, hP⟩ : ∃ P, w.heap.size = P := ⟨_, rfl⟩
  have HPE := hid_intro hP
  rw [hP] at XP XU ⊢
  have HPW : Hid (w.heap.size ≤ P) := by show _ ≤ _; rw [hP]; exact Nat.le_refl _
  have HPW1 : Hid (w.heap.size ≤ P + 1) := by show _ ≤ _; rw [hP]; exact Nat.le_succ _
  clear hP
  go_wp2_with fail
  refine (HN.out _).mono ?_
  rintro en w3 ⟨hn, hw3⟩
  rw [hw3]
  clear hw3
  rcases num_split hn with ⟨n, e1, rfl⟩ | ⟨e1, z, rfl⟩
  · rw [e1] at HF
    clear hn e1
    have e0 := cell_heapS (i := 0) XP.out rfl
    have ze0 := frozen_of_row w2 P 0 _ _ XP.out
    have e1 := cell_heapS (i := 1) XP.out rfl
    have ze1 := frozen_of_row w2 P 1 _ _ XP.out
    have e2 := cell_heapS (i := 2) XP.out rfl
    have ze2 := frozen_of_row w2 P 2 _ _ XP.out
    have e3 := cell_heapS (i := 3) XP.out rfl
    have ze3 := frozen_of_row w2 P 3 _ _ XP.out
    have e4 := cell_heapS (i := 4) XP.out rfl
    have ze4 := frozen_of_row w2 P 4 _ _ XP.out
    have e5 := cell_heapS (i := 5) XP.out rfl
    have ze5 := frozen_of_row w2 P 5 _ _ XP.out
    have e6 := cell_heapS (i := 6) XP.out rfl
    have ze6 := frozen_of_row w2 P 6 _ _ XP.out
    have e7 := cell_heapS (i := 7) XP.out rfl
    have ze7 := frozen_of_row w2 P 7 _ _ XP.out
    go_upto_region 21 with fail
    have XP4 := hid_intro (heap_setCell_same w2 P 3 _ _ (.int .i64 n) XP.out)
    have gc := grown_cellS w2 P 3 (.int .i64 n)
    have XU4 : Hid ((w2.setCell ⟨P, 3, none⟩ (.int .i64 n)).heap[P + 1]? = some (.cells #[.int .i64 0, .int .i64 0, .int .i64 0, .int .i64 0, .slice none 0 0, .slice none 0 0, .slice none 0 0, .slice none 0 0] 49 (0, 0))) := by
      show _ = _
      rw [gc.block (P + 1) (Array.getElem?_eq_some_iff.1 XU.out).1 (by simp)]
      exact XU.out
    have V4 := hid_intro (V2.out.one XP.out (by decide) (by decide) gc)
    have G4 := hid_intro (grown_new G2.out gc HPW.out)
    generalize w2.setCell ⟨P, 3, none⟩ (.int .i64 n) = w4 at *
    clear gc
    clear e0 ze0
    clear e1 ze1
    clear e2 ze2
    clear e3 ze3
    clear e4 ze4
    clear e5 ze5
    clear e6 ze6
    clear e7 ze7
    have d0 := cell_heapS (i := 0) XP4.out rfl
    have d1 := cell_heapS (i := 1) XP4.out rfl
    have d2 := cell_heapS (i := 2) XP4.out rfl
    have d3 := cell_heapS (i := 3) XP4.out rfl
    have d4 := cell_heapS (i := 4) XP4.out rfl
    have d5 := cell_heapS (i := 5) XP4.out rfl
    have d6 := cell_heapS (i := 6) XP4.out rfl
    have d7 := cell_heapS (i := 7) XP4.out rfl
    have u0 := cell_heapS (i := 0) XU4.out rfl
    have zu0 := frozen_of_row w4 (P + 1) 0 _ _ XU4.out
    have u1 := cell_heapS (i := 1) XU4.out rfl
    have zu1 := frozen_of_row w4 (P + 1) 1 _ _ XU4.out
    have u2 := cell_heapS (i := 2) XU4.out rfl
    have zu2 := frozen_of_row w4 (P + 1) 2 _ _ XU4.out
    have u3 := cell_heapS (i := 3) XU4.out rfl
    have zu3 := frozen_of_row w4 (P + 1) 3 _ _ XU4.out
    have u4 := cell_heapS (i := 4) XU4.out rfl
    have zu4 := frozen_of_row w4 (P + 1) 4 _ _ XU4.out
    have u5 := cell_heapS (i := 5) XU4.out rfl
    have zu5 := frozen_of_row w4 (P + 1) 5 _ _ XU4.out
    have u6 := cell_heapS (i := 6) XU4.out rfl
    have zu6 := frozen_of_row w4 (P + 1) 6 _ _ XU4.out
    have u7 := cell_heapS (i := 7) XU4.out rfl
    have zu7 := frozen_of_row w4 (P + 1) 7 _ _ XU4.out
    go_wp2
    obtain ⟨y1, y2⟩ := box8_put XU4.out (.int .i64 o.k) (.int .i64 o.a) (.int .i64 o.b) (.int .i64 n) (.slice ka o.key.length kc) (.slice va o.val.length vc) (.slice ha o.hi.length hc) (.slice fa o.f.length fc)
    refine bodyPost_ret (results_aop rfl _ _ (P + 1) _ _ _ _ _ _ _ _ rfl y1) rfl ?_
    refine ⟨grown_new G4.out y2 HPW1.out, .inl ⟨_, _, _, _, _, HF.out, rfl, ?_⟩⟩
    have V5 := V4.out.one XU4.out (by decide) (by decide) y2
    exact ⟨V5.key, V5.val, V5.hi, V5.f, V5.bk, V5.bv, V5.bh⟩
  · rw [e1] at HF
    clear hn e1
    have XP4 := hid_intro XP.out
    have d0 := cell_heapS (i := 0) XP4.out rfl
    have d1 := cell_heapS (i := 1) XP4.out rfl
    have d2 := cell_heapS (i := 2) XP4.out rfl
    have d3 := cell_heapS (i := 3) XP4.out rfl
    have d4 := cell_heapS (i := 4) XP4.out rfl
    have d5 := cell_heapS (i := 5) XP4.out rfl
    have d6 := cell_heapS (i := 6) XP4.out rfl
    have d7 := cell_heapS (i := 7) XP4.out rfl
    have u0 := cell_heapS (i := 0) XU.out rfl
    have zu0 := frozen_of_row w2 (P + 1) 0 _ _ XU.out
    have u1 := cell_heapS (i := 1) XU.out rfl
    have zu1 := frozen_of_row w2 (P + 1) 1 _ _ XU.out
    have u2 := cell_heapS (i := 2) XU.out rfl
    have zu2 := frozen_of_row w2 (P + 1) 2 _ _ XU.out
    have u3 := cell_heapS (i := 3) XU.out rfl
    have zu3 := frozen_of_row w2 (P + 1) 3 _ _ XU.out
    have u4 := cell_heapS (i := 4) XU.out rfl
    have zu4 := frozen_of_row w2 (P + 1) 4 _ _ XU.out
    have u5 := cell_heapS (i := 5) XU.out rfl
    have zu5 := frozen_of_row w2 (P + 1) 5 _ _ XU.out
    have u6 := cell_heapS (i := 6) XU.out rfl
    have zu6 := frozen_of_row w2 (P + 1) 6 _ _ XU.out
    have u7 := cell_heapS (i := 7) XU.out rfl
    have zu7 := frozen_of_row w2 (P + 1) 7 _ _ XU.out
    go_wp2
    obtain ⟨y1, y2⟩ := box8_put XU.out (.int .i64 o.k) (.int .i64 o.a) (.int .i64 o.b) (.int .i64 o.c) (.slice ka o.key.length kc) (.slice va o.val.length vc) (.slice ha o.hi.length hc) (.slice fa o.f.length fc)
    refine bodyPost_ret (results_aop rfl _ _ (P + 1) _ _ _ _ _ _ _ _ rfl y1) rfl ?_
    exact ⟨grown_new G2.out y2 HPW1.out, .inr ⟨232, HF.out, by decide, rfl⟩⟩
set_option maxHeartbeats 8000000 in
set_option maxRecDepth 100000 in
theorem refFilled_75 (o : Opq) (ka : Option Addr) (kc : Nat) (va : Option Addr) (vc : Nat) (ha : Option Addr) (hc : Nat) (fa : Option Addr) (fc : Nat) (T : List UInt8) (w : World) (B : Nat) (hB : B ≤ w.heap.size) (hV : OpV w B o (.slice ka o.key.length kc) (.slice va o.val.length vc) (.slice ha o.hi.length hc) (.slice fa o.f.length fc)) (hT : T.length ≤ 2000000000) :
    Calls Tryz.prog 41 #[.agg #[.int .i64 o.k, .int .i64 o.a, .int .i64 o.b, .int .i64 o.c, .slice ka o.key.length kc, .slice va o.val.length vc, .slice ha o.hi.length hc, .slice fa o.f.length fc], .int .u8 75, .string (tstr T)] w fun en w' => FlP w B o (.slice ka o.key.length kc) (.slice va o.val.length vc) (.slice ha o.hi.length hc) (.slice fa o.f.length fc) (fld o 75 T) en w' := by
  have g1 := World.grownBy_alloc w (.cells #[.int .i64 o.k, .int .i64 o.a, .int .i64 o.b, .int .i64 o.c, .slice ka o.key.length kc, .slice va o.val.length vc, .slice ha o.hi.length hc, .slice fa o.f.length fc] 49) none
  have g2 := World.grownBy_alloc (w.alloc (.cells #[.int .i64 o.k, .int .i64 o.a, .int .i64 o.b, .int .i64 o.c, .slice ka o.key.length kc, .slice va o.val.length vc, .slice ha o.hi.length hc, .slice fa o.f.length fc] 49)) (.cells #[.int .i64 0, .int .i64 0, .int .i64 0, .int .i64 0, .slice none 0 0, .slice none 0 0, .slice none 0 0, .slice none 0 0] 49) none
  have xP := heap_keptS (heap_at0S w #[.int .i64 o.k, .int .i64 o.a, .int .i64 o.b, .int .i64 o.c, .slice ka o.key.length kc, .slice va o.val.length vc, .slice ha o.hi.length hc, .slice fa o.f.length fc] 49) g2
  have xU := heap_at0S (w.alloc (.cells #[.int .i64 o.k, .int .i64 o.a, .int .i64 o.b, .int .i64 o.c, .slice ka o.key.length kc, .slice va o.val.length vc, .slice ha o.hi.length hc, .slice fa o.f.length fc] 49)) #[.int .i64 0, .int .i64 0, .int .i64 0, .int .i64 0, .slice none 0 0, .slice none 0 0, .slice none 0 0, .slice none 0 0] 49
  rw [size_allocD] at xU
  have XP := hid_intro xP
  have XU := hid_intro xU
  have G2 := hid_intro (grown_trans g1 g2)
  have V2 := hid_intro (hV.keptN G2.out)
  have HN : Hid (∀ W, Calls Tryz.prog 67 #[.string (tstr T)] W fun en w' => UhP W T en w') := fun W => by have := refUnhex_any (tstr T) W (by rw [tstr_size]; omega); rwa [tstr_data] at this
  have HF : Hid (fld o 75 T = (uhE T).map fun n => { o with key := n }) := by show _ = _; unfold fld; rw [if_neg (by decide), if_neg (by decide), if_neg (by decide), if_pos rfl]
  clear g1 g2 xP xU hV hT
  generalize fld o 75 T = FR at *
  generalize tstr T = s at *
  go_enter Tryz.func41, Tryz.ntmps41
  go_upto_region 1 with fail
  generalize (w.alloc (.cells #[.int .i64 o.k, .int .i64 o.a, .int .i64 o.b, .int .i64 o.c, .slice ka o.key.length kc, .slice va o.val.length vc, .slice ha o.hi.length hc, .slice fa o.f.length fc] 49)).alloc (.cells #[.int .i64 0, .int .i64 0, .int .i64 0, .int .i64 0, .slice none 0 0, .slice none 0 0, .slice none 0 0, .slice none 0 0] 49) = w2 at *
  have HPW : Hid (w.heap.size ≤ w.heap.size) := Nat.le_refl w.heap.size
  have HPW1 : Hid (w.heap.size ≤ w.heap.size + 1) := Nat.le_succ _
  have HB : Hid (B ≤ w.heap.size) := hB
  clear hB
  obtain ⟨P, hP⟩ : ∃ P, w.heap.size = P := ⟨_, rfl⟩
  have HPE := hid_intro hP
  rw [hP] at XP XU ⊢
  have HPW : Hid (w.heap.size ≤ P) := by show _ ≤ _; rw [hP]; exact Nat.le_refl _
  have HPW1 : Hid (w.heap.size ≤ P + 1) := by show _ ≤ _; rw [hP]; exact Nat.le_succ _
  clear hP
  go_wp2_with fail
  refine (HN.out _).mono ?_
  rintro en w3 ⟨hg3, hr3⟩
  have XP3 := hid_intro (heap_keptS XP.out hg3)
  have XU3 := hid_intro (heap_keptS XU.out hg3)
  have G3 := hid_intro (grown_trans G2.out hg3)
  have V3 := hid_intro (V2.out.keptN hg3)
  have HS2 : Hid (B ≤ w2.heap.size) := by have := HB.out; have := G2.out.size; show _ ≤ _; omega
  clear hg3
  rcases hr3 with ⟨e1, rfl⟩ | ⟨b, ao, c, e1, rfl, ho⟩
  · have e2 : uhE T = .error 201 := by unfold uhE; rw [e1]
    rw [e2] at HF
    clear e1 e2
    have XP4 := hid_intro XP3.out
    have d0 := cell_heapS (i := 0) XP4.out rfl
    have d1 := cell_heapS (i := 1) XP4.out rfl
    have d2 := cell_heapS (i := 2) XP4.out rfl
    have d3 := cell_heapS (i := 3) XP4.out rfl
    have d4 := cell_heapS (i := 4) XP4.out rfl
    have d5 := cell_heapS (i := 5) XP4.out rfl
    have d6 := cell_heapS (i := 6) XP4.out rfl
    have d7 := cell_heapS (i := 7) XP4.out rfl
    have u0 := cell_heapS (i := 0) XU3.out rfl
    have zu0 := frozen_of_row w3 (P + 1) 0 _ _ XU3.out
    have u1 := cell_heapS (i := 1) XU3.out rfl
    have zu1 := frozen_of_row w3 (P + 1) 1 _ _ XU3.out
    have u2 := cell_heapS (i := 2) XU3.out rfl
    have zu2 := frozen_of_row w3 (P + 1) 2 _ _ XU3.out
    have u3 := cell_heapS (i := 3) XU3.out rfl
    have zu3 := frozen_of_row w3 (P + 1) 3 _ _ XU3.out
    have u4 := cell_heapS (i := 4) XU3.out rfl
    have zu4 := frozen_of_row w3 (P + 1) 4 _ _ XU3.out
    have u5 := cell_heapS (i := 5) XU3.out rfl
    have zu5 := frozen_of_row w3 (P + 1) 5 _ _ XU3.out
    have u6 := cell_heapS (i := 6) XU3.out rfl
    have zu6 := frozen_of_row w3 (P + 1) 6 _ _ XU3.out
    have u7 := cell_heapS (i := 7) XU3.out rfl
    have zu7 := frozen_of_row w3 (P + 1) 7 _ _ XU3.out
    go_wp2
    obtain ⟨y1, y2⟩ := box8_put XU3.out (.int .i64 o.k) (.int .i64 o.a) (.int .i64 o.b) (.int .i64 o.c) (.slice ka o.key.length kc) (.slice va o.val.length vc) (.slice ha o.hi.length hc) (.slice fa o.f.length fc)
    refine bodyPost_ret (results_aop rfl _ _ (P + 1) _ _ _ _ _ _ _ _ rfl y1) rfl ?_
    exact ⟨grown_new G3.out y2 HPW1.out, .inr ⟨201, HF.out, by decide, rfl⟩⟩
  · have e2 : uhE T = .ok b := by unfold uhE; rw [e1]
    rw [e2] at HF
    have HBT := hid_intro (hx_uh e1).2
    have HO := hid_intro (own_low ho HS2.out)
    clear e1 e2 ho
    have e0 := cell_heapS (i := 0) XP3.out rfl
    have ze0 := frozen_of_row w3 P 0 _ _ XP3.out
    have e1 := cell_heapS (i := 1) XP3.out rfl
    have ze1 := frozen_of_row w3 P 1 _ _ XP3.out
    have e2 := cell_heapS (i := 2) XP3.out rfl
    have ze2 := frozen_of_row w3 P 2 _ _ XP3.out
    have e3 := cell_heapS (i := 3) XP3.out rfl
    have ze3 := frozen_of_row w3 P 3 _ _ XP3.out
    have e4 := cell_heapS (i := 4) XP3.out rfl
    have ze4 := frozen_of_row w3 P 4 _ _ XP3.out
    have e5 := cell_heapS (i := 5) XP3.out rfl
    have ze5 := frozen_of_row w3 P 5 _ _ XP3.out
    have e6 := cell_heapS (i := 6) XP3.out rfl
    have ze6 := frozen_of_row w3 P 6 _ _ XP3.out
    have e7 := cell_heapS (i := 7) XP3.out rfl
    have ze7 := frozen_of_row w3 P 7 _ _ XP3.out
    go_upto_region 11 with fail
    have XP4 := hid_intro (heap_setCell_same w3 P 4 _ _ (.slice ao b.length c) XP3.out)
    have gc := grown_cellS w3 P 4 (.slice ao b.length c)
    have XU4 : Hid ((w3.setCell ⟨P, 4, none⟩ (.slice ao b.length c)).heap[P + 1]? = some (.cells #[.int .i64 0, .int .i64 0, .int .i64 0, .int .i64 0, .slice none 0 0, .slice none 0 0, .slice none 0 0, .slice none 0 0] 49 (0, 0))) := by
      show _ = _
      rw [gc.block (P + 1) (Array.getElem?_eq_some_iff.1 XU3.out).1 (by simp)]
      exact XU3.out
    have V4 := hid_intro (V3.out.one XP3.out (by decide) (by decide) gc)
    have O4 := hid_intro (OpI.own HO.out XP3.out (by decide) gc)
    have G4 := hid_intro (grown_new G3.out gc HPW.out)
    generalize w3.setCell ⟨P, 4, none⟩ (.slice ao b.length c) = w4 at *
    clear gc
    clear e0 ze0
    clear e1 ze1
    clear e2 ze2
    clear e3 ze3
    clear e4 ze4
    clear e5 ze5
    clear e6 ze6
    clear e7 ze7
    have d0 := cell_heapS (i := 0) XP4.out rfl
    have d1 := cell_heapS (i := 1) XP4.out rfl
    have d2 := cell_heapS (i := 2) XP4.out rfl
    have d3 := cell_heapS (i := 3) XP4.out rfl
    have d4 := cell_heapS (i := 4) XP4.out rfl
    have d5 := cell_heapS (i := 5) XP4.out rfl
    have d6 := cell_heapS (i := 6) XP4.out rfl
    have d7 := cell_heapS (i := 7) XP4.out rfl
    have u0 := cell_heapS (i := 0) XU4.out rfl
    have zu0 := frozen_of_row w4 (P + 1) 0 _ _ XU4.out
    have u1 := cell_heapS (i := 1) XU4.out rfl
    have zu1 := frozen_of_row w4 (P + 1) 1 _ _ XU4.out
    have u2 := cell_heapS (i := 2) XU4.out rfl
    have zu2 := frozen_of_row w4 (P + 1) 2 _ _ XU4.out
    have u3 := cell_heapS (i := 3) XU4.out rfl
    have zu3 := frozen_of_row w4 (P + 1) 3 _ _ XU4.out
    have u4 := cell_heapS (i := 4) XU4.out rfl
    have zu4 := frozen_of_row w4 (P + 1) 4 _ _ XU4.out
    have u5 := cell_heapS (i := 5) XU4.out rfl
    have zu5 := frozen_of_row w4 (P + 1) 5 _ _ XU4.out
    have u6 := cell_heapS (i := 6) XU4.out rfl
    have zu6 := frozen_of_row w4 (P + 1) 6 _ _ XU4.out
    have u7 := cell_heapS (i := 7) XU4.out rfl
    have zu7 := frozen_of_row w4 (P + 1) 7 _ _ XU4.out
    go_wp2
    obtain ⟨y1, y2⟩ := box8_put XU4.out (.int .i64 o.k) (.int .i64 o.a) (.int .i64 o.b) (.int .i64 o.c) (.slice ao b.length c) (.slice va o.val.length vc) (.slice ha o.hi.length hc) (.slice fa o.f.length fc)
    refine bodyPost_ret (results_aop rfl _ _ (P + 1) _ _ _ _ _ _ _ _ rfl y1) rfl ?_
    refine ⟨grown_new G4.out y2 HPW1.out, .inl ⟨_, _, _, _, _, HF.out, rfl, ?_⟩⟩
    have V5 := V4.out.one XU4.out (by decide) (by decide) y2
    have O5 := OpI.own O4.out XU4.out (by decide) y2
    exact ⟨O5, V5.val, V5.hi, V5.f, HBT.out, V5.bv, V5.bh⟩
set_option maxHeartbeats 8000000 in
set_option maxRecDepth 100000 in
theorem refFilled_86 (o : Opq) (ka : Option Addr) (kc : Nat) (va : Option Addr) (vc : Nat) (ha : Option Addr) (hc : Nat) (fa : Option Addr) (fc : Nat) (T : List UInt8) (w : World) (B : Nat) (hB : B ≤ w.heap.size) (hV : OpV w B o (.slice ka o.key.length kc) (.slice va o.val.length vc) (.slice ha o.hi.length hc) (.slice fa o.f.length fc)) (hT : T.length ≤ 2000000000) :
    Calls Tryz.prog 41 #[.agg #[.int .i64 o.k, .int .i64 o.a, .int .i64 o.b, .int .i64 o.c, .slice ka o.key.length kc, .slice va o.val.length vc, .slice ha o.hi.length hc, .slice fa o.f.length fc], .int .u8 86, .string (tstr T)] w fun en w' => FlP w B o (.slice ka o.key.length kc) (.slice va o.val.length vc) (.slice ha o.hi.length hc) (.slice fa o.f.length fc) (fld o 86 T) en w' := by
  have g1 := World.grownBy_alloc w (.cells #[.int .i64 o.k, .int .i64 o.a, .int .i64 o.b, .int .i64 o.c, .slice ka o.key.length kc, .slice va o.val.length vc, .slice ha o.hi.length hc, .slice fa o.f.length fc] 49) none
  have g2 := World.grownBy_alloc (w.alloc (.cells #[.int .i64 o.k, .int .i64 o.a, .int .i64 o.b, .int .i64 o.c, .slice ka o.key.length kc, .slice va o.val.length vc, .slice ha o.hi.length hc, .slice fa o.f.length fc] 49)) (.cells #[.int .i64 0, .int .i64 0, .int .i64 0, .int .i64 0, .slice none 0 0, .slice none 0 0, .slice none 0 0, .slice none 0 0] 49) none
  have xP := heap_keptS (heap_at0S w #[.int .i64 o.k, .int .i64 o.a, .int .i64 o.b, .int .i64 o.c, .slice ka o.key.length kc, .slice va o.val.length vc, .slice ha o.hi.length hc, .slice fa o.f.length fc] 49) g2
  have xU := heap_at0S (w.alloc (.cells #[.int .i64 o.k, .int .i64 o.a, .int .i64 o.b, .int .i64 o.c, .slice ka o.key.length kc, .slice va o.val.length vc, .slice ha o.hi.length hc, .slice fa o.f.length fc] 49)) #[.int .i64 0, .int .i64 0, .int .i64 0, .int .i64 0, .slice none 0 0, .slice none 0 0, .slice none 0 0, .slice none 0 0] 49
  rw [size_allocD] at xU
  have XP := hid_intro xP
  have XU := hid_intro xU
  have G2 := hid_intro (grown_trans g1 g2)
  have V2 := hid_intro (hV.keptN G2.out)
  have HN : Hid (∀ W, Calls Tryz.prog 67 #[.string (tstr T)] W fun en w' => UhP W T en w') := fun W => by have := refUnhex_any (tstr T) W (by rw [tstr_size]; omega); rwa [tstr_data] at this
  have HF : Hid (fld o 86 T = (uhE T).map fun n => { o with val := n }) := by show _ = _; unfold fld; rw [if_neg (by decide), if_neg (by decide), if_neg (by decide), if_neg (by decide), if_pos rfl]
  clear g1 g2 xP xU hV hT
  generalize fld o 86 T = FR at *
  generalize tstr T = s at *
  go_enter Tryz.func41, Tryz.ntmps41
  go_upto_region 1 with fail
  generalize (w.alloc (.cells #[.int .i64 o.k, .int .i64 o.a, .int .i64 o.b, .int .i64 o.c, .slice ka o.key.length kc, .slice va o.val.length vc, .slice ha o.hi.length hc, .slice fa o.f.length fc] 49)).alloc (.cells #[.int .i64 0, .int .i64 0, .int .i64 0, .int .i64 0, .slice none 0 0, .slice none 0 0, .slice none 0 0, .slice none 0 0] 49) = w2 at *
  have HPW : Hid (w.heap.size ≤ w.heap.size) := Nat.le_refl w.heap.size
  have HPW1 : Hid (w.heap.size ≤ w.heap.size + 1) := Nat.le_succ _
  have HB : Hid (B ≤ w.heap.size) := hB
  clear hB
  obtain ⟨P, hP⟩ : ∃ P, w.heap.size = P := ⟨_, rfl⟩
  have HPE := hid_intro hP
  rw [hP] at XP XU ⊢
  have HPW : Hid (w.heap.size ≤ P) := by show _ ≤ _; rw [hP]; exact Nat.le_refl _
  have HPW1 : Hid (w.heap.size ≤ P + 1) := by show _ ≤ _; rw [hP]; exact Nat.le_succ _
  clear hP
  go_wp2_with fail
  refine (HN.out _).mono ?_
  rintro en w3 ⟨hg3, hr3⟩
  have XP3 := hid_intro (heap_keptS XP.out hg3)
  have XU3 := hid_intro (heap_keptS XU.out hg3)
  have G3 := hid_intro (grown_trans G2.out hg3)
  have V3 := hid_intro (V2.out.keptN hg3)
  have HS2 : Hid (B ≤ w2.heap.size) := by have := HB.out; have := G2.out.size; show _ ≤ _; omega
  clear hg3
  rcases hr3 with ⟨e1, rfl⟩ | ⟨b, ao, c, e1, rfl, ho⟩
  · have e2 : uhE T = .error 201 := by unfold uhE; rw [e1]
    rw [e2] at HF
    clear e1 e2
    have XP4 := hid_intro XP3.out
    have d0 := cell_heapS (i := 0) XP4.out rfl
    have d1 := cell_heapS (i := 1) XP4.out rfl
    have d2 := cell_heapS (i := 2) XP4.out rfl
    have d3 := cell_heapS (i := 3) XP4.out rfl
    have d4 := cell_heapS (i := 4) XP4.out rfl
    have d5 := cell_heapS (i := 5) XP4.out rfl
    have d6 := cell_heapS (i := 6) XP4.out rfl
    have d7 := cell_heapS (i := 7) XP4.out rfl
    have u0 := cell_heapS (i := 0) XU3.out rfl
    have zu0 := frozen_of_row w3 (P + 1) 0 _ _ XU3.out
    have u1 := cell_heapS (i := 1) XU3.out rfl
    have zu1 := frozen_of_row w3 (P + 1) 1 _ _ XU3.out
    have u2 := cell_heapS (i := 2) XU3.out rfl
    have zu2 := frozen_of_row w3 (P + 1) 2 _ _ XU3.out
    have u3 := cell_heapS (i := 3) XU3.out rfl
    have zu3 := frozen_of_row w3 (P + 1) 3 _ _ XU3.out
    have u4 := cell_heapS (i := 4) XU3.out rfl
    have zu4 := frozen_of_row w3 (P + 1) 4 _ _ XU3.out
    have u5 := cell_heapS (i := 5) XU3.out rfl
    have zu5 := frozen_of_row w3 (P + 1) 5 _ _ XU3.out
    have u6 := cell_heapS (i := 6) XU3.out rfl
    have zu6 := frozen_of_row w3 (P + 1) 6 _ _ XU3.out
    have u7 := cell_heapS (i := 7) XU3.out rfl
    have zu7 := frozen_of_row w3 (P + 1) 7 _ _ XU3.out
    go_wp2
    obtain ⟨y1, y2⟩ := box8_put XU3.out (.int .i64 o.k) (.int .i64 o.a) (.int .i64 o.b) (.int .i64 o.c) (.slice ka o.key.length kc) (.slice va o.val.length vc) (.slice ha o.hi.length hc) (.slice fa o.f.length fc)
    refine bodyPost_ret (results_aop rfl _ _ (P + 1) _ _ _ _ _ _ _ _ rfl y1) rfl ?_
    exact ⟨grown_new G3.out y2 HPW1.out, .inr ⟨201, HF.out, by decide, rfl⟩⟩
  · have e2 : uhE T = .ok b := by unfold uhE; rw [e1]
    rw [e2] at HF
    have HBT := hid_intro (hx_uh e1).2
    have HO := hid_intro (own_low ho HS2.out)
    clear e1 e2 ho
    have e0 := cell_heapS (i := 0) XP3.out rfl
    have ze0 := frozen_of_row w3 P 0 _ _ XP3.out
    have e1 := cell_heapS (i := 1) XP3.out rfl
    have ze1 := frozen_of_row w3 P 1 _ _ XP3.out
    have e2 := cell_heapS (i := 2) XP3.out rfl
    have ze2 := frozen_of_row w3 P 2 _ _ XP3.out
    have e3 := cell_heapS (i := 3) XP3.out rfl
    have ze3 := frozen_of_row w3 P 3 _ _ XP3.out
    have e4 := cell_heapS (i := 4) XP3.out rfl
    have ze4 := frozen_of_row w3 P 4 _ _ XP3.out
    have e5 := cell_heapS (i := 5) XP3.out rfl
    have ze5 := frozen_of_row w3 P 5 _ _ XP3.out
    have e6 := cell_heapS (i := 6) XP3.out rfl
    have ze6 := frozen_of_row w3 P 6 _ _ XP3.out
    have e7 := cell_heapS (i := 7) XP3.out rfl
    have ze7 := frozen_of_row w3 P 7 _ _ XP3.out
    go_upto_region 11 with fail
    have XP4 := hid_intro (heap_setCell_same w3 P 5 _ _ (.slice ao b.length c) XP3.out)
    have gc := grown_cellS w3 P 5 (.slice ao b.length c)
    have XU4 : Hid ((w3.setCell ⟨P, 5, none⟩ (.slice ao b.length c)).heap[P + 1]? = some (.cells #[.int .i64 0, .int .i64 0, .int .i64 0, .int .i64 0, .slice none 0 0, .slice none 0 0, .slice none 0 0, .slice none 0 0] 49 (0, 0))) := by
      show _ = _
      rw [gc.block (P + 1) (Array.getElem?_eq_some_iff.1 XU3.out).1 (by simp)]
      exact XU3.out
    have V4 := hid_intro (V3.out.one XP3.out (by decide) (by decide) gc)
    have O4 := hid_intro (OpI.own HO.out XP3.out (by decide) gc)
    have G4 := hid_intro (grown_new G3.out gc HPW.out)
    generalize w3.setCell ⟨P, 5, none⟩ (.slice ao b.length c) = w4 at *
    clear gc
    clear e0 ze0
    clear e1 ze1
    clear e2 ze2
    clear e3 ze3
    clear e4 ze4
    clear e5 ze5
    clear e6 ze6
    clear e7 ze7
    have d0 := cell_heapS (i := 0) XP4.out rfl
    have d1 := cell_heapS (i := 1) XP4.out rfl
    have d2 := cell_heapS (i := 2) XP4.out rfl
    have d3 := cell_heapS (i := 3) XP4.out rfl
    have d4 := cell_heapS (i := 4) XP4.out rfl
    have d5 := cell_heapS (i := 5) XP4.out rfl
    have d6 := cell_heapS (i := 6) XP4.out rfl
    have d7 := cell_heapS (i := 7) XP4.out rfl
    have u0 := cell_heapS (i := 0) XU4.out rfl
    have zu0 := frozen_of_row w4 (P + 1) 0 _ _ XU4.out
    have u1 := cell_heapS (i := 1) XU4.out rfl
    have zu1 := frozen_of_row w4 (P + 1) 1 _ _ XU4.out
    have u2 := cell_heapS (i := 2) XU4.out rfl
    have zu2 := frozen_of_row w4 (P + 1) 2 _ _ XU4.out
    have u3 := cell_heapS (i := 3) XU4.out rfl
    have zu3 := frozen_of_row w4 (P + 1) 3 _ _ XU4.out
    have u4 := cell_heapS (i := 4) XU4.out rfl
    have zu4 := frozen_of_row w4 (P + 1) 4 _ _ XU4.out
    have u5 := cell_heapS (i := 5) XU4.out rfl
    have zu5 := frozen_of_row w4 (P + 1) 5 _ _ XU4.out
    have u6 := cell_heapS (i := 6) XU4.out rfl
    have zu6 := frozen_of_row w4 (P + 1) 6 _ _ XU4.out
    have u7 := cell_heapS (i := 7) XU4.out rfl
    have zu7 := frozen_of_row w4 (P + 1) 7 _ _ XU4.out
    go_wp2
    obtain ⟨y1, y2⟩ := box8_put XU4.out (.int .i64 o.k) (.int .i64 o.a) (.int .i64 o.b) (.int .i64 o.c) (.slice ka o.key.length kc) (.slice ao b.length c) (.slice ha o.hi.length hc) (.slice fa o.f.length fc)
    refine bodyPost_ret (results_aop rfl _ _ (P + 1) _ _ _ _ _ _ _ _ rfl y1) rfl ?_
    refine ⟨grown_new G4.out y2 HPW1.out, .inl ⟨_, _, _, _, _, HF.out, rfl, ?_⟩⟩
    have V5 := V4.out.one XU4.out (by decide) (by decide) y2
    have O5 := OpI.own O4.out XU4.out (by decide) y2
    exact ⟨V5.key, O5, V5.hi, V5.f, V5.bk, HBT.out, V5.bh⟩
set_option maxHeartbeats 8000000 in
set_option maxRecDepth 100000 in
theorem refFilled_72 (o : Opq) (ka : Option Addr) (kc : Nat) (va : Option Addr) (vc : Nat) (ha : Option Addr) (hc : Nat) (fa : Option Addr) (fc : Nat) (T : List UInt8) (w : World) (B : Nat) (hB : B ≤ w.heap.size) (hV : OpV w B o (.slice ka o.key.length kc) (.slice va o.val.length vc) (.slice ha o.hi.length hc) (.slice fa o.f.length fc)) (hT : T.length ≤ 2000000000) :
    Calls Tryz.prog 41 #[.agg #[.int .i64 o.k, .int .i64 o.a, .int .i64 o.b, .int .i64 o.c, .slice ka o.key.length kc, .slice va o.val.length vc, .slice ha o.hi.length hc, .slice fa o.f.length fc], .int .u8 72, .string (tstr T)] w fun en w' => FlP w B o (.slice ka o.key.length kc) (.slice va o.val.length vc) (.slice ha o.hi.length hc) (.slice fa o.f.length fc) (fld o 72 T) en w' := by
  have g1 := World.grownBy_alloc w (.cells #[.int .i64 o.k, .int .i64 o.a, .int .i64 o.b, .int .i64 o.c, .slice ka o.key.length kc, .slice va o.val.length vc, .slice ha o.hi.length hc, .slice fa o.f.length fc] 49) none
  have g2 := World.grownBy_alloc (w.alloc (.cells #[.int .i64 o.k, .int .i64 o.a, .int .i64 o.b, .int .i64 o.c, .slice ka o.key.length kc, .slice va o.val.length vc, .slice ha o.hi.length hc, .slice fa o.f.length fc] 49)) (.cells #[.int .i64 0, .int .i64 0, .int .i64 0, .int .i64 0, .slice none 0 0, .slice none 0 0, .slice none 0 0, .slice none 0 0] 49) none
  have xP := heap_keptS (heap_at0S w #[.int .i64 o.k, .int .i64 o.a, .int .i64 o.b, .int .i64 o.c, .slice ka o.key.length kc, .slice va o.val.length vc, .slice ha o.hi.length hc, .slice fa o.f.length fc] 49) g2
  have xU := heap_at0S (w.alloc (.cells #[.int .i64 o.k, .int .i64 o.a, .int .i64 o.b, .int .i64 o.c, .slice ka o.key.length kc, .slice va o.val.length vc, .slice ha o.hi.length hc, .slice fa o.f.length fc] 49)) #[.int .i64 0, .int .i64 0, .int .i64 0, .int .i64 0, .slice none 0 0, .slice none 0 0, .slice none 0 0, .slice none 0 0] 49
  rw [size_allocD] at xU
  have XP := hid_intro xP
  have XU := hid_intro xU
  have G2 := hid_intro (grown_trans g1 g2)
  have V2 := hid_intro (hV.keptN G2.out)
  have HN : Hid (∀ W, Calls Tryz.prog 67 #[.string (tstr T)] W fun en w' => UhP W T en w') := fun W => by have := refUnhex_any (tstr T) W (by rw [tstr_size]; omega); rwa [tstr_data] at this
  have HF : Hid (fld o 72 T = (uhE T).map fun n => { o with hi := n }) := by show _ = _; unfold fld; rw [if_neg (by decide), if_neg (by decide), if_neg (by decide), if_neg (by decide), if_neg (by decide), if_pos rfl]
  clear g1 g2 xP xU hV hT
  generalize fld o 72 T = FR at *
  generalize tstr T = s at *
  go_enter Tryz.func41, Tryz.ntmps41
  go_upto_region 1 with fail
  generalize (w.alloc (.cells #[.int .i64 o.k, .int .i64 o.a, .int .i64 o.b, .int .i64 o.c, .slice ka o.key.length kc, .slice va o.val.length vc, .slice ha o.hi.length hc, .slice fa o.f.length fc] 49)).alloc (.cells #[.int .i64 0, .int .i64 0, .int .i64 0, .int .i64 0, .slice none 0 0, .slice none 0 0, .slice none 0 0, .slice none 0 0] 49) = w2 at *
  have HPW : Hid (w.heap.size ≤ w.heap.size) := Nat.le_refl w.heap.size
  have HPW1 : Hid (w.heap.size ≤ w.heap.size + 1) := Nat.le_succ _
  have HB : Hid (B ≤ w.heap.size) := hB
  clear hB
  obtain ⟨P, hP⟩ : ∃ P, w.heap.size = P := ⟨_, rfl⟩
  have HPE := hid_intro hP
  rw [hP] at XP XU ⊢
  have HPW : Hid (w.heap.size ≤ P) := by show _ ≤ _; rw [hP]; exact Nat.le_refl _
  have HPW1 : Hid (w.heap.size ≤ P + 1) := by show _ ≤ _; rw [hP]; exact Nat.le_succ _
  clear hP
  go_wp2_with fail
  refine (HN.out _).mono ?_
  rintro en w3 ⟨hg3, hr3⟩
  have XP3 := hid_intro (heap_keptS XP.out hg3)
  have XU3 := hid_intro (heap_keptS XU.out hg3)
  have G3 := hid_intro (grown_trans G2.out hg3)
  have V3 := hid_intro (V2.out.keptN hg3)
  have HS2 : Hid (B ≤ w2.heap.size) := by have := HB.out; have := G2.out.size; show _ ≤ _; omega
  clear hg3
  rcases hr3 with ⟨e1, rfl⟩ | ⟨b, ao, c, e1, rfl, ho⟩
  · have e2 : uhE T = .error 201 := by unfold uhE; rw [e1]
    rw [e2] at HF
    clear e1 e2
    have XP4 := hid_intro XP3.out
    have d0 := cell_heapS (i := 0) XP4.out rfl
    have d1 := cell_heapS (i := 1) XP4.out rfl
    have d2 := cell_heapS (i := 2) XP4.out rfl
    have d3 := cell_heapS (i := 3) XP4.out rfl
    have d4 := cell_heapS (i := 4) XP4.out rfl
    have d5 := cell_heapS (i := 5) XP4.out rfl
    have d6 := cell_heapS (i := 6) XP4.out rfl
    have d7 := cell_heapS (i := 7) XP4.out rfl
    have u0 := cell_heapS (i := 0) XU3.out rfl
    have zu0 := frozen_of_row w3 (P + 1) 0 _ _ XU3.out
    have u1 := cell_heapS (i := 1) XU3.out rfl
    have zu1 := frozen_of_row w3 (P + 1) 1 _ _ XU3.out
    have u2 := cell_heapS (i := 2) XU3.out rfl
    have zu2 := frozen_of_row w3 (P + 1) 2 _ _ XU3.out
    have u3 := cell_heapS (i := 3) XU3.out rfl
    have zu3 := frozen_of_row w3 (P + 1) 3 _ _ XU3.out
    have u4 := cell_heapS (i := 4) XU3.out rfl
    have zu4 := frozen_of_row w3 (P + 1) 4 _ _ XU3.out
    have u5 := cell_heapS (i := 5) XU3.out rfl
    have zu5 := frozen_of_row w3 (P + 1) 5 _ _ XU3.out
    have u6 := cell_heapS (i := 6) XU3.out rfl
    have zu6 := frozen_of_row w3 (P + 1) 6 _ _ XU3.out
    have u7 := cell_heapS (i := 7) XU3.out rfl
    have zu7 := frozen_of_row w3 (P + 1) 7 _ _ XU3.out
    go_wp2
    obtain ⟨y1, y2⟩ := box8_put XU3.out (.int .i64 o.k) (.int .i64 o.a) (.int .i64 o.b) (.int .i64 o.c) (.slice ka o.key.length kc) (.slice va o.val.length vc) (.slice ha o.hi.length hc) (.slice fa o.f.length fc)
    refine bodyPost_ret (results_aop rfl _ _ (P + 1) _ _ _ _ _ _ _ _ rfl y1) rfl ?_
    exact ⟨grown_new G3.out y2 HPW1.out, .inr ⟨201, HF.out, by decide, rfl⟩⟩
  · have e2 : uhE T = .ok b := by unfold uhE; rw [e1]
    rw [e2] at HF
    have HBT := hid_intro (hx_uh e1).2
    have HO := hid_intro (own_low ho HS2.out)
    clear e1 e2 ho
    have e0 := cell_heapS (i := 0) XP3.out rfl
    have ze0 := frozen_of_row w3 P 0 _ _ XP3.out
    have e1 := cell_heapS (i := 1) XP3.out rfl
    have ze1 := frozen_of_row w3 P 1 _ _ XP3.out
    have e2 := cell_heapS (i := 2) XP3.out rfl
    have ze2 := frozen_of_row w3 P 2 _ _ XP3.out
    have e3 := cell_heapS (i := 3) XP3.out rfl
    have ze3 := frozen_of_row w3 P 3 _ _ XP3.out
    have e4 := cell_heapS (i := 4) XP3.out rfl
    have ze4 := frozen_of_row w3 P 4 _ _ XP3.out
    have e5 := cell_heapS (i := 5) XP3.out rfl
    have ze5 := frozen_of_row w3 P 5 _ _ XP3.out
    have e6 := cell_heapS (i := 6) XP3.out rfl
    have ze6 := frozen_of_row w3 P 6 _ _ XP3.out
    have e7 := cell_heapS (i := 7) XP3.out rfl
    have ze7 := frozen_of_row w3 P 7 _ _ XP3.out
    go_upto_region 11 with fail
    have XP4 := hid_intro (heap_setCell_same w3 P 6 _ _ (.slice ao b.length c) XP3.out)
    have gc := grown_cellS w3 P 6 (.slice ao b.length c)
    have XU4 : Hid ((w3.setCell ⟨P, 6, none⟩ (.slice ao b.length c)).heap[P + 1]? = some (.cells #[.int .i64 0, .int .i64 0, .int .i64 0, .int .i64 0, .slice none 0 0, .slice none 0 0, .slice none 0 0, .slice none 0 0] 49 (0, 0))) := by
      show _ = _
      rw [gc.block (P + 1) (Array.getElem?_eq_some_iff.1 XU3.out).1 (by simp)]
      exact XU3.out
    have V4 := hid_intro (V3.out.one XP3.out (by decide) (by decide) gc)
    have O4 := hid_intro (OpI.own HO.out XP3.out (by decide) gc)
    have G4 := hid_intro (grown_new G3.out gc HPW.out)
    generalize w3.setCell ⟨P, 6, none⟩ (.slice ao b.length c) = w4 at *
    clear gc
    clear e0 ze0
    clear e1 ze1
    clear e2 ze2
    clear e3 ze3
    clear e4 ze4
    clear e5 ze5
    clear e6 ze6
    clear e7 ze7
    have d0 := cell_heapS (i := 0) XP4.out rfl
    have d1 := cell_heapS (i := 1) XP4.out rfl
    have d2 := cell_heapS (i := 2) XP4.out rfl
    have d3 := cell_heapS (i := 3) XP4.out rfl
    have d4 := cell_heapS (i := 4) XP4.out rfl
    have d5 := cell_heapS (i := 5) XP4.out rfl
    have d6 := cell_heapS (i := 6) XP4.out rfl
    have d7 := cell_heapS (i := 7) XP4.out rfl
    have u0 := cell_heapS (i := 0) XU4.out rfl
    have zu0 := frozen_of_row w4 (P + 1) 0 _ _ XU4.out
    have u1 := cell_heapS (i := 1) XU4.out rfl
    have zu1 := frozen_of_row w4 (P + 1) 1 _ _ XU4.out
    have u2 := cell_heapS (i := 2) XU4.out rfl
    have zu2 := frozen_of_row w4 (P + 1) 2 _ _ XU4.out
    have u3 := cell_heapS (i := 3) XU4.out rfl
    have zu3 := frozen_of_row w4 (P + 1) 3 _ _ XU4.out
    have u4 := cell_heapS (i := 4) XU4.out rfl
    have zu4 := frozen_of_row w4 (P + 1) 4 _ _ XU4.out
    have u5 := cell_heapS (i := 5) XU4.out rfl
    have zu5 := frozen_of_row w4 (P + 1) 5 _ _ XU4.out
    have u6 := cell_heapS (i := 6) XU4.out rfl
    have zu6 := frozen_of_row w4 (P + 1) 6 _ _ XU4.out
    have u7 := cell_heapS (i := 7) XU4.out rfl
    have zu7 := frozen_of_row w4 (P + 1) 7 _ _ XU4.out
    go_wp2
    obtain ⟨y1, y2⟩ := box8_put XU4.out (.int .i64 o.k) (.int .i64 o.a) (.int .i64 o.b) (.int .i64 o.c) (.slice ka o.key.length kc) (.slice va o.val.length vc) (.slice ao b.length c) (.slice fa o.f.length fc)
    refine bodyPost_ret (results_aop rfl _ _ (P + 1) _ _ _ _ _ _ _ _ rfl y1) rfl ?_
    refine ⟨grown_new G4.out y2 HPW1.out, .inl ⟨_, _, _, _, _, HF.out, rfl, ?_⟩⟩
    have V5 := V4.out.one XU4.out (by decide) (by decide) y2
    have O5 := OpI.own O4.out XU4.out (by decide) y2
    exact ⟨V5.key, V5.val, O5, V5.f, V5.bk, V5.bv, HBT.out⟩
theorem refFilled23 (o : Opq) (ka : Option Addr) (kc : Nat) (va : Option Addr) (vc : Nat) (ha : Option Addr) (hc : Nat) (fa : Option Addr) (fc : Nat) (x : UInt8) (hx : x ∈ lt6s) (T : List UInt8) (w : World) (B : Nat) (hB : B ≤ w.heap.size) (hV : OpV w B o (.slice ka o.key.length kc) (.slice va o.val.length vc) (.slice ha o.hi.length hc) (.slice fa o.f.length fc)) (hT : T.length ≤ 2000000000) :
    Calls Tryz.prog 41 #[.agg #[.int .i64 o.k, .int .i64 o.a, .int .i64 o.b, .int .i64 o.c, .slice ka o.key.length kc, .slice va o.val.length vc, .slice ha o.hi.length hc, .slice fa o.f.length fc], .int .u8 (x.toNat : Nat), .string (tstr T)] w fun en w' => FlP w B o (.slice ka o.key.length kc) (.slice va o.val.length vc) (.slice ha o.hi.length hc) (.slice fa o.f.length fc) (fld o x T) en w' := by
  unfold lt6s at hx
  simp only [List.mem_cons, List.not_mem_nil, or_false] at hx
  rcases hx with rfl | rfl | rfl | rfl | rfl | rfl
  · exact refFilled_65 o ka kc va vc ha hc fa fc T w B hB hV hT
  · exact refFilled_66 o ka kc va vc ha hc fa fc T w B hB hV hT
  · exact refFilled_67 o ka kc va vc ha hc fa fc T w B hB hV hT
  · exact refFilled_75 o ka kc va vc ha hc fa fc T w B hB hV hT
  · exact refFilled_86 o ka kc va vc ha hc fa fc T w B hB hV hT
  · exact refFilled_72 o ka kc va vc ha hc fa fc T w B hB hV hT
end Go.Proofs.YtdoclmmghdaaaaaGreatDoor
