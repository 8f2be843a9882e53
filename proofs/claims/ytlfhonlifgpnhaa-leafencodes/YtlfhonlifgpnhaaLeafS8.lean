import Derived.Test.YtlfhonlifgpnhaaLeafS7
import Derived.Great.Walk
namespace Go.Proofs.Ytlfhonlifgpnhaa
open Go.RowKit
attribute [local go_sem ↓] Go.wp_at_zero Go.wp_at_succ

/-- A copy over the beginning. -/
theorem ow_copy {w w' : World} {g cap : Nat} {zs ts mk : List Int} {cur : Array Value} (h : Ow w g cap (zs ++ mk)) (hc : w.heap[g]? = some (.cells cur 5 (0, 0))) (hl : ts.length = zs.length) (hro : Ro w w' g (splice cur.toList 0 (ts.map (Value.int .u8)))) : Ow w' g cap (ts ++ mk) := by
  obtain ⟨cur', h1, h2, h3⟩ := h.ex
  have e : cur' = cur := by
    rw [h1] at hc
    simp only [Option.some.injEq, Obj.cells.injEq] at hc
    exact hc.1
  subst e
  have hle := h.le
  rw [List.length_append] at hle
  refine ⟨⟨_, hro.row, ?_, fun j hj => ?_⟩, by rw [List.length_append, hl]; exact hle, h.max⟩
  · simp only [List.size_toArray, splice, List.take_zero, List.nil_append, List.length_append, List.length_map, List.length_drop, Array.length_toList]
    omega
  · rw [List.length_append] at hj
    simp only [splice, List.take_zero, List.nil_append, Nat.zero_add, List.getElem?_toArray, List.length_map]
    by_cases hj2 : j < ts.length
    · rw [List.getElem?_append_left (by simpa using hj2)]
      simp [List.getD, List.getElem?_append_left hj2, List.getElem?_eq_getElem hj2]
    · have h4 := h3 j (by rw [List.length_append]; omega)
      rw [List.getElem?_append_right (by simpa using hj2), List.length_map, List.getElem?_drop]
      have e5 : ts.length + (j - ts.length) = j := by omega
      rw [e5, Array.getElem?_toList, h4]
      simp only [List.getD]
      rw [List.getElem?_append_right (by omega), List.getElem?_append_right (by omega), hl]

set_option maxHeartbeats 4000000 in
set_option maxRecDepth 100000 in
theorem again_any (base top b2 A c n : Nat) (gk gv : Nat → Nat × Nat) (xs : List Value) (L : List It) (A2 c2 : Nat) (gk2 gv2 : Nat → Nat × Nat) (xs2 : List Value) (M : List It) (w : World) (hd : Lt4 w base top A c gk gv xs L) (hq : Lq w b2 A2 c2 gk2 gv2 xs2 M) (ht : top ≤ b2) (hsm : Sm M L) (hn : M.length = n) (hm : n ≤ 5000) (hs : ∀ x ∈ M, x.key.length ≤ 5000 ∧ x.val.length ≤ 5000) (hc : n + 1 ≤ c) :
    Calls Try.prog 17 #[.agg #[.slice (some ⟨A, 0, none⟩) (n + 1) c, .int .i64 n], .slice (some ⟨A2, 0, none⟩) n c2] w fun en w' => en = .returned (.tuple #[]) ∧ Lt4 w' base top A c gk gv xs M ∧ Fw base top w w' := by
  have ga := World.grownBy_alloc w (.cells #[.slice (some ⟨A, 0, none⟩) (n + 1) c, .int .i64 (n : Int)] 26) none
  have T1 := hid_intro (Bl.new w (.slice (some ⟨A, 0, none⟩) (n + 1) c) (.int .i64 (n : Int)))
  have G1 := hid_intro ga
  have D1 := hid_intro (hd.keptN ga)
  have Q1 := hid_intro (hq.keptN ga)
  have HS := hid_intro hs
  have HSM := hid_intro hsm
  clear ga hd hq hs hsm
  go_enter Try.func17, Try.ntmps17
  go_upto_region 1 with fail
  generalize w.alloc (.cells #[.slice (some ⟨A, 0, none⟩) (n + 1) c, .int .i64 (n : Int)] 26) = w1 at *
  generalize w.heap.size = T at *
  go_wp2
  go_loopw [4] (fun si wr => ∃ (i : Nat) (K : List It), i ≤ n ∧ si = .int .i64 i ∧ Sm M K ∧ (∀ j, j < i → K.getD j it0 = M.getD j it0) ∧ Lt4 wr base top A c gk gv xs K ∧ Fw base top w1 wr) (fun si _ => n - (intOf si).toNat)
  case atStart => exact ⟨0, L, Nat.zero_le _, rfl, HSM.out, fun j hj => by omega, D1.out, Fw.refl _ _ _⟩
  case round =>
    obtain ⟨i, K, hi, rfl, hsm, hag, hld, hfw⟩ := hrel
    have HK := hid_intro hsm
    have HAG := hid_intro hag
    have HLD := hid_intro hld
    have HFW := hid_intro hfw
    have TR := hid_intro (hfw.bl T1.out)
    have QR := hid_intro (hfw.lq Q1.out ht)
    clear hsm hag hld hfw D1
    obtain ⟨y0, y1⟩ := TR.out.cells
    by_cases hlt : i < n
    · have k1 : (i : Int) < (n : Int) := by omega
      have k2 : (0 : Int) ≤ (i : Int) := by omega
      have k3 : (i : Int) < (n : Int) + 1 := by omega
      have hik : i < K.length := by have := HK.out.len; omega
      have him : i < M.length := by omega
      have hss := HS.out _ (getD_mem him)
      obtain ⟨e1, e2⟩ := HLD.out.cells i hik
      obtain ⟨f1, f2, _, _⟩ := QR.out.lm.cells (ys := []) (by rw [List.append_nil]; exact QR.out.own) i him
      obtain ⟨z1, z2, z3, z4⟩ := HK.out.el i him
      rw [z1] at e1
      rw [z2] at e2
      have HZ2 := hid_intro z2
      have HZ3 := hid_intro z3
      have HZ4 := hid_intro z4
      obtain ⟨o1, o2⟩ := HLD.out.ld.lm.ko i hik
      obtain ⟨ks, vs⟩ := QR.out.lm.ko i him
      have hA1 : ∀ g, U8 wr g → A ≠ g := fun g hu e => own_item_ne HLD.out.ld.own g hu (by rw [e]; rfl)
      have hA2 : ∀ g, U8 wr g → A2 ≠ g := fun g hu e => own_item_ne QR.out.own g hu (by rw [e]; rfl)
      have hT2 : ∀ g, U8 wr g → T ≠ g := fun g hu e => TR.out.u8 g hu (by rw [e])
      have n1 := hA1 _ o1.u8
      have n2 := hA2 _ o1.u8
      have n3 := hT2 _ o1.u8
      clear hA1 hA2 hT2
      obtain ⟨cur1, hcur1, hcs1, _⟩ := o1.ex
      have hle1 := o1.le
      rw [List.length_append] at hle1
      have hsrc1 := (ow_part ks _ rfl).cells _ rfl
      have HCP : Hid (∀ w3, Ro wr.drew w3 (gk i).1 (splice cur1.toList 0 ((M.getD i it0).key.map (Value.int .u8))) → Lt4 w3 base top A c gk gv xs (K.set i ⟨(M.getD i it0).key, (K.getD i it0).val, (K.getD i it0).size, (K.getD i it0).first⟩) ∧ Fw base top wr w3 ∧ Sm K (K.set i ⟨(M.getD i it0).key, (K.getD i it0).val, (K.getD i it0).size, (K.getD i it0).first⟩)) := fun w3 hro =>
        HLD.out.setKey i hik _ z1.symm (grown_trans ((Qt.refl wr).drew.grown _) hro.grown) (ow_copy (o1.keptN ((Qt.refl wr).drew.grown none)) hcur1 z1.symm hro)
      obtain ⟨X, hX⟩ : ∃ X, (M.getD i it0).key = X := ⟨_, rfl⟩
      rw [hX] at e1 f1 hsrc1 HCP hss
      have HX := hid_intro hX
      have hkl0 : (K.getD i it0).key.length = X.length := by rw [z1, hX]
      rw [hkl0] at hle1
      obtain ⟨kl, hkl⟩ : ∃ kl, X.length = kl := ⟨_, rfl⟩
      rw [hkl] at e1 f1 hss hle1
      have hsz1 : cur1.toList.length = (gk i).2 := by rw [Array.length_toList]; exact hcs1
      clear hX z1 z2 z3 z4 o1 o2 ks vs hkl0
      obtain ⟨g1, hg1⟩ : ∃ g1, (gk i).1 = g1 := ⟨_, rfl⟩
      obtain ⟨c1, hc1⟩ : ∃ c1, (gk i).2 = c1 := ⟨_, rfl⟩
      rw [hg1] at e1 n1 n2 n3 hcur1 HCP
      rw [hc1] at e1 hsz1 hle1
      generalize (gk2 i).1 = g2 at f1 hsrc1
      generalize (gk2 i).2 = c3 at f1
      generalize (gv i).1 = g3 at e2
      generalize (gv i).2 = c4 at e2
      generalize (gv2 i).1 = g4 at f2
      generalize (gv2 i).2 = c5 at f2
      clear hg1 hc1 hcs1
      have HS4 : Hid (∀ W, wr.grownBy W none → W.cell? ⟨T, 0, none⟩ = some (.slice (some ⟨A, 0, none⟩) (n + 1) c) ∧ W.cell? ⟨A, i * 4, none⟩ = some (.slice (some ⟨g1, 0, none⟩) kl c1) ∧ W.cell? ⟨A2, i * 4, none⟩ = some (.slice (some ⟨g2, 0, none⟩) kl c3)) := fun W hW => ⟨hW.cell y0 (by simp), hW.cell e1 (by simp), hW.cell f1 (by simp)⟩
      go_upto_region 4 with fail
      go_region_held3 (fun w' => w'.cell? ⟨T, 0, none⟩ = some (.slice (some ⟨A, 0, none⟩) (n + 1) c) ∧ w'.cell? ⟨A, i * 4, none⟩ = some (.slice (some ⟨g1, 0, none⟩) kl c1) ∧ w'.cell? ⟨A2, i * 4, none⟩ = some (.slice (some ⟨g2, 0, none⟩) kl c3))
        (first
          | exact HS4.out _ ((Qt.refl _).drew.grown none)
          | exact ⟨s0, s1, s2⟩)
        ((refine step_copy_ro rfl (.tmp 16) (.tmp 21) (by rfl) (some ⟨g1, 0, none⟩) (some ⟨g2, 0, none⟩) kl c1 kl c3 (by rfl) (by rfl) g1 0 cur1.toList (by exact hcur1) (X.map (Value.int .u8)) (by rw [List.length_map, hkl]; exact (Nat.min_self _).symm) (fun _ => ⟨rfl, _, rfl, hsrc1⟩) (by rw [List.length_map, hkl, hsz1]; omega) (ints_oneCell _ _) kl (by rw [List.length_map, hkl]) ?_; intro w3 hro; have hgr3 := grown_trans ((Qt.refl wr).drew.grown (some g1)) hro.grown; have s0 := hgr3.cell y0 (fun e => n3 (Option.some.inj e)); have s1 := hgr3.cell e1 (fun e => n1 (Option.some.inj e)); have s2 := hgr3.cell f1 (fun e => n2 (Option.some.inj e))))
      obtain ⟨d3, fw3, sm3⟩ := HCP.out w3 hro
      have D3 := hid_intro d3
      have F3 := hid_intro (HFW.out.trans fw3)
      have T3 := hid_intro (fw3.bl TR.out)
      have Q3 := hid_intro (fw3.lq QR.out ht)
      have HG3 : Hid (∀ j, (K.set i ⟨X, (K.getD i it0).val, (K.getD i it0).size, (K.getD i it0).first⟩).getD j it0 = if j = i then ⟨X, (K.getD i it0).val, (K.getD i it0).size, (K.getD i it0).first⟩ else K.getD j it0) := fun j => set_getD hik _ j
      have S3 := hid_intro (HK.out.trans sm3)
      have hik3 : i < (K.set i ⟨X, (K.getD i it0).val, (K.getD i it0).size, (K.getD i it0).first⟩).length := by rw [List.length_set]; exact hik
      clear d3 fw3 sm3 HCP hro hgr3 s0 s1 s2 HS4 y0 y1 e1 e2 f1 f2 n1 n2 n3 hcur1 hsrc1 hle1 hsz1 HLD HFW TR QR
      generalize K.set i ⟨X, (K.getD i it0).val, (K.getD i it0).size, (K.getD i it0).first⟩ = K1 at *
      obtain ⟨y0, y1⟩ := T3.out.cells
      have hki : K1.getD i it0 = ⟨X, (K.getD i it0).val, (K.getD i it0).size, (K.getD i it0).first⟩ := by rw [HG3.out i, if_pos rfl]
      have hz2 : (K1.getD i it0).val.length = (M.getD i it0).val.length := by rw [hki]; exact HZ2.out
      obtain ⟨_, e2⟩ := D3.out.cells i hik3
      obtain ⟨_, f2, _, _⟩ := Q3.out.lm.cells (ys := []) (by rw [List.append_nil]; exact Q3.out.own) i him
      rw [hz2] at e2
      have o2 := (D3.out.ld.lm.ko i hik3).2
      have vs := (Q3.out.lm.ko i him).2
      have n1 : A ≠ (gv i).1 := fun e => own_item_ne D3.out.ld.own _ o2.u8 (by rw [← e]; rfl)
      have n2 : A2 ≠ (gv i).1 := fun e => own_item_ne Q3.out.own _ o2.u8 (by rw [← e]; rfl)
      have n3 : T ≠ (gv i).1 := fun e => T3.out.u8 _ o2.u8 (by rw [e])
      obtain ⟨cur1, hcur1, hcs1, _⟩ := o2.ex
      have hle1 := o2.le
      rw [List.length_append, hz2] at hle1
      have hsrc1 := (ow_part vs _ rfl).cells _ rfl
      have HCP : Hid (∀ w4, Ro w3.drew w4 (gv i).1 (splice cur1.toList 0 ((M.getD i it0).val.map (Value.int .u8))) → Lt4 w4 base top A c gk gv xs (K1.set i ⟨(K1.getD i it0).key, (M.getD i it0).val, (K1.getD i it0).size, (K1.getD i it0).first⟩) ∧ Fw base top w3 w4 ∧ Sm K1 (K1.set i ⟨(K1.getD i it0).key, (M.getD i it0).val, (K1.getD i it0).size, (K1.getD i it0).first⟩)) := fun w4 hro =>
        D3.out.setVal i hik3 _ hz2.symm (grown_trans ((Qt.refl w3).drew.grown _) hro.grown) (ow_copy (o2.keptN ((Qt.refl w3).drew.grown none)) hcur1 hz2.symm hro)
      have hss2 := (HS.out _ (getD_mem him)).2
      obtain ⟨V, hV⟩ : ∃ V, (M.getD i it0).val = V := ⟨_, rfl⟩
      rw [hV] at e2 f2 hsrc1 HCP hss2 hle1
      have HV := hid_intro hV
      obtain ⟨ml, hml⟩ : ∃ ml, V.length = ml := ⟨_, rfl⟩
      rw [hml] at e2 f2 hss2 hle1
      have hsz1 : cur1.toList.length = (gv i).2 := by rw [Array.length_toList]; exact hcs1
      have HKI := hid_intro hki
      clear hV o2 vs hz2 hki
      obtain ⟨g1, hg1⟩ : ∃ g1, (gv i).1 = g1 := ⟨_, rfl⟩
      obtain ⟨c1, hc1⟩ : ∃ c1, (gv i).2 = c1 := ⟨_, rfl⟩
      rw [hg1] at e2 n1 n2 n3 hcur1 HCP
      rw [hc1] at e2 hsz1 hle1
      generalize (gv2 i).1 = g2 at f2 hsrc1
      generalize (gv2 i).2 = c3 at f2
      clear hg1 hc1 hcs1
      have HS5 : Hid (∀ W, w3.grownBy W none → W.cell? ⟨T, 0, none⟩ = some (.slice (some ⟨A, 0, none⟩) (n + 1) c) ∧ W.cell? ⟨A, i * 4 + 1, none⟩ = some (.slice (some ⟨g1, 0, none⟩) ml c1) ∧ W.cell? ⟨A2, i * 4 + 1, none⟩ = some (.slice (some ⟨g2, 0, none⟩) ml c3)) := fun W hW => ⟨hW.cell y0 (by simp), hW.cell e2 (by simp), hW.cell f2 (by simp)⟩
      go_upto_region 5 with fail
      go_region_held3 (fun w' => w'.cell? ⟨T, 0, none⟩ = some (.slice (some ⟨A, 0, none⟩) (n + 1) c) ∧ w'.cell? ⟨A, i * 4 + 1, none⟩ = some (.slice (some ⟨g1, 0, none⟩) ml c1) ∧ w'.cell? ⟨A2, i * 4 + 1, none⟩ = some (.slice (some ⟨g2, 0, none⟩) ml c3))
        (first
          | exact HS5.out _ ((Qt.refl _).drew.grown none)
          | exact ⟨s0, s1, s2⟩)
        ((refine step_copy_ro rfl (.tmp 28) (.tmp 33) (by rfl) (some ⟨g1, 0, none⟩) (some ⟨g2, 0, none⟩) ml c1 ml c3 (by rfl) (by rfl) g1 0 cur1.toList (by exact hcur1) (V.map (Value.int .u8)) (by rw [List.length_map, hml]; exact (Nat.min_self _).symm) (fun _ => ⟨rfl, _, rfl, hsrc1⟩) (by rw [List.length_map, hml, hsz1]; omega) (ints_oneCell _ _) ml (by rw [List.length_map, hml]) ?_; intro w4 hro; have hgr4 := grown_trans ((Qt.refl w3).drew.grown (some g1)) hro.grown; have s0 := hgr4.cell y0 (fun e => n3 (Option.some.inj e)); have s1 := hgr4.cell e2 (fun e => n1 (Option.some.inj e)); have s2 := hgr4.cell f2 (fun e => n2 (Option.some.inj e))))
      obtain ⟨d4, fw4, sm4⟩ := HCP.out w4 hro
      have D4 := hid_intro d4
      have F4 := hid_intro (F3.out.trans fw4)
      have S4 := hid_intro (S3.out.trans sm4)
      have A4 : Hid (∀ j, j < i + 1 → (K1.set i ⟨(K1.getD i it0).key, V, (K1.getD i it0).size, (K1.getD i it0).first⟩).getD j it0 = M.getD j it0) := fun j hj => by
        rw [set_getD hik3]
        by_cases e : j = i
        · subst e
          rw [if_pos rfl, HKI.out]
          simp only
          rw [HZ3.out, HZ4.out, ← HX.out, ← HV.out]
        · rw [if_neg e, HG3.out j, if_neg e]
          exact HAG.out j (by omega)
      clear d4 fw4 sm4 HCP hro hgr4 s0 s1 s2 HS5 y0 y1 e2 f2 n1 n2 n3 hcur1 hsrc1 hle1 hsz1
      generalize K1.set i ⟨(K1.getD i it0).key, V, (K1.getD i it0).size, (K1.getD i it0).first⟩ = K2 at *
      go_wp2
      go_roundw
      case rel => exact ⟨i + 1, K2, by omega, by go_num, S4.out, A4.out, D4.out, F4.out⟩
      case measure => simp [intOf]; omega
    · have hin : i = n := by omega
      subst hin
      have k1 : ¬ (i : Int) < (i : Int) := by omega
      have HE : Hid (K = M) := List.ext_getElem HK.out.len fun j h1 h2 => by
        have := HAG.out j (by omega)
        simpa [List.getD, List.getElem?_eq_getElem h1, List.getElem?_eq_getElem h2] using this
      rw [HE.out] at HLD
      have HF := hid_intro ((Fw.of G1.out).trans HFW.out)
      clear HK HAG HE HFW
      go_wp2
      refine Go.Great.bodyPost_end0 rfl rfl ?_
      exact ⟨rfl, HLD.out, HF.out⟩
end Go.Proofs.Ytlfhonlifgpnhaa
