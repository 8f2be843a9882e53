import Derived.Test.YtcjgmiilfjjbcaaGreatDoorGrpZ
namespace Go.Proofs.YtcjgmiilfjjbcaaGreatDoor
open Go.RowKit

theorem bAt_cases (x : UInt8) (hx : x ∈ ltr) (b : Nat) (w : World) (o : Opq) (ka : Option Addr) (kc : Nat) (va : Option Addr) (vc : Nat) (ha : Option Addr) (hc : Nat) (fa : Option Addr) (fc : Nat) (h : OpR w o ka kc va vc ha hc fa fc) (hn : nvl o x = none) : (∃ j z a c, bAt b (x.toNat : Nat) = some ⟨b, j, none⟩ ∧ bvl o x = some z ∧ (#[.int .i64 o.k, .int .i64 o.a, .int .i64 o.b, .int .i64 o.c, .slice ka o.key.length kc, .slice va o.val.length vc, .slice ha o.hi.length hc, .slice fa o.f.length fc] : Array Value)[j]? = some (.slice a z.length c) ∧ Byt w a z.length c z ∧ Bt z ∧ z.length ≤ lsz o) ∨ (bAt b (x.toNat : Nat) = none ∧ bvl o x = none) := by
  simp only [ltr, List.mem_cons, List.not_mem_nil, or_false] at hx
  rcases hx with rfl | rfl | rfl | rfl | rfl | rfl | rfl
  · exact absurd hn (by simp [nvl])
  · exact absurd hn (by simp [nvl])
  · exact absurd hn (by simp [nvl])
  · exact .inl ⟨4, o.key, _, _, rfl, rfl, rfl, h.key, h.bk, by unfold lsz; omega⟩
  · exact .inl ⟨5, o.val, _, _, rfl, rfl, rfl, h.val, h.bv, by unfold lsz; omega⟩
  · exact .inl ⟨6, o.hi, _, _, rfl, rfl, rfl, h.hi, h.bh, by unfold lsz; omega⟩
  · exact .inr ⟨rfl, rfl⟩
theorem wv_snoc (ws : List (List UInt8)) (x : List UInt8) : wv (ws ++ [x]) = wv ws ++ [.string (tstr x)] := by unfold wv; rw [List.map_append]; rfl
/-- What lies beside the words. -/
theorem app_kept {wr w8 : World} {B N : Nat} {a : Option Addr} {c : Nat} {xs : List Value} {sx : ByteArray} (ho : wr.ownsRow B 9 1 (.slice a N c) N xs) (hg : (wr.alloc (.cells #[.string sx] 9)).grownBy w8 (Value.slice a N c).ownBlock) : (∀ (K : Nat) (s : ByteArray) (p : Nat), wr.heap[K]? = some (Obj.stringIter s p) → w8.heap[K]? = some (Obj.stringIter s p)) ∧ (∀ (K : Nat) (cs : Array Value) (t : TypeId) (fr : Nat × Nat), wr.heap[K]? = some (Obj.cells cs t fr) → t ≠ 9 → w8.heap[K]? = some (Obj.cells cs t fr)) := by
  have ga := World.grownBy_alloc wr (.cells #[.string sx] 9) none
  have oa := own_keptD ho ga
  refine ⟨fun K s p h => ?_, fun K cs t fr h hne => ?_⟩
  · have h1 := heap_keptS h ga
    rw [hg.block K (Array.getElem?_eq_some_iff.1 h1).1 (fun e => ?_)]
    · exact h1
    · rcases own_neI oa h1 with q | q
      · rw [q] at e; cases e
      · exact q e.symm
  · have h1 := heap_keptS h ga
    rw [hg.block K (Array.getElem?_eq_some_iff.1 h1).1 (fun e => ?_)]
    · exact h1
    · rcases own_neB oa h1 (fun q => hne q.symm) with q | q
      · rw [q] at e; cases e
      · exact q e.symm
set_option maxHeartbeats 16000000 in
set_option maxRecDepth 100000 in
theorem stepWords_any (o : Opq) (ka : Option Addr) (kc : Nat) (va : Option Addr) (vc : Nat) (ha : Option Addr) (hc : Nat) (fa : Option Addr) (fc : Nat) (w : World) (hL : Lv w) (hR : OpR w o ka kc va vc ha hc fa fc) (hk : 0 ≤ o.k ∧ o.k < 23) (hm : lsz o ≤ 1048576) (hN : ∀ c ∈ fds o.k, ∀ n, nvl o c = some n → smn n = true) (hF : ∀ p ∈ o.f, -9223372036854775808 ≤ p.2 ∧ p.2 ≤ 9223372036854775807) :
    Calls Tryz.prog 23 #[.agg #[.int .i64 o.k, .int .i64 o.a, .int .i64 o.b, .int .i64 o.c, .slice ka o.key.length kc, .slice va o.val.length vc, .slice ha o.hi.length hc, .slice fa o.f.length fc]] w fun en w' => ∃ a c, en = .returned (.slice a (stw o).length c) ∧ w'.ownsRow w.heap.size 9 1 (.slice a (stw o).length c) (stw o).length (wv (stw o)) ∧ w.grownBy w' none := by
  obtain ⟨ip, hip, hp0, hp1, hp2⟩ := info_parts info_strS
  have HL : Hid (Lv w) := hL
  have HR := hid_intro hR
  have HN := hid_intro hN
  have HF := hid_intro hF
  obtain ⟨hk0, hk1⟩ := hk
  have hmf : o.f.length ≤ 1048576 := by unfold lsz at hm; omega
  have HMF := hid_intro hmf
  have HM := hid_intro hm
  have xb := heap_at0S w #[.int .i64 o.k, .int .i64 o.a, .int .i64 o.b, .int .i64 o.c, .slice ka o.key.length kc, .slice va o.val.length vc, .slice ha o.hi.length hc, .slice fa o.f.length fc] 35
  have g1 := World.grownBy_alloc w (.cells #[.int .i64 o.k, .int .i64 o.a, .int .i64 o.b, .int .i64 o.c, .slice ka o.key.length kc, .slice va o.val.length vc, .slice ha o.hi.length hc, .slice fa o.f.length fc] 35) none
  have LS := hid_intro (hL.keptN g1).stp
  have HW := hid_intro (word_any o.k _ LS.out)
  obtain ⟨p, hp⟩ : ∃ p, stT[o.k.toNat]? = some p := ⟨_, List.getElem?_eq_getElem (l := stT) (i := o.k.toNat) (by rw [stT_len]; omega)⟩
  have hfd : fds o.k = p.2 := by unfold fds; rw [List.getD_eq_getElem?_getD, hp]; rfl
  have hfl : (fds o.k).length ≤ 4 := by
    have : ∀ k : Fin 23, (stT.getD k.1 ([], [])).2.length ≤ 4 := by decide
    exact this ⟨o.k.toNat, by omega⟩
  have hfm := fds_mem o.k
  have HFM := hid_intro hfm
  have HSW : Hid (stw o = wrd o.k :: ((fds o.k).flatMap (wlt o) ++ o.f.map fwd)) := rfl
  have gw := World.grownBy_alloc (w.alloc (.cells #[.int .i64 o.k, .int .i64 o.a, .int .i64 o.b, .int .i64 o.c, .slice ka o.key.length kc, .slice va o.val.length vc, .slice ha o.hi.length hc, .slice fa o.f.length fc] 35)) (.cells #[.string (tstr (wrd o.k))] 9) none
  have g2 := grown_trans g1 gw
  have cf := ((hL.keptN g2).stp o.k.toNat p hp).2
  rw [← hfd] at cf
  have XB := hid_intro (heap_keptS xb gw)
  have hlit := World.ownsRow_lit (base := w.heap.size) (e := 9) (size := 1) (w.alloc (.cells #[.int .i64 o.k, .int .i64 o.a, .int .i64 o.b, .int .i64 o.c, .slice ka o.key.length kc, .slice va o.val.length vc, .slice ha o.hi.length hc, .slice fa o.f.length fc] 35)) #[.string (tstr (wrd o.k))] 1 (by simp) (by unfold maxLen; omega) rfl
  have hsz1 : (w.alloc (.cells #[.int .i64 o.k, .int .i64 o.a, .int .i64 o.b, .int .i64 o.c, .slice ka o.key.length kc, .slice va o.val.length vc, .slice ha o.hi.length hc, .slice fa o.f.length fc] 35)).heap.size = w.heap.size + 1 := by simp
  rw [hsz1] at hlit
  have OW := hid_intro hlit
  have G2 := hid_intro g2
  have htd := tstr_data (fds o.k)
  have HTD := hid_intro htd
  have hzf := tstr_size (fds o.k)
  have dk := cell_heapS (i := 0) xb rfl
  have dkw := cell_heapS (i := 0) XB.out rfl
  have hsz2 : ((w.alloc (.cells #[.int .i64 o.k, .int .i64 o.a, .int .i64 o.b, .int .i64 o.c, .slice ka o.key.length kc, .slice va o.val.length vc, .slice ha o.hi.length hc, .slice fa o.f.length fc] 35)).alloc (.cells #[.string (tstr (wrd o.k))] 9)).heap.size = w.heap.size + 2 := by simp
  clear hL hR hN hF xb g1 hp hfd hfm gw g2 htd hlit hsz1 hm hmf
  generalize stw o = SW at *
  go_enter Tryz.func23, Tryz.ntmps23
  go_wp2_with fail
  refine HW.out.mono ?_
  rintro en w2 ⟨rfl, rfl⟩
  go_wp2
  clear dk dkw cf hk0 hk1 LS HW
  generalize tstr (fds o.k) = s at *
  generalize fds o.k = fs at *
  generalize wrd o.k = wd at *
  generalize hb0 : (w.alloc (.cells #[.int .i64 o.k, .int .i64 o.a, .int .i64 o.b, .int .i64 o.c, .slice ka o.key.length kc, .slice va o.val.length vc, .slice ha o.hi.length hc, .slice fa o.f.length fc] 35)).alloc (.cells #[.string (tstr wd)] 9) = wb at *
  clear hb0
  have IT0 := World.iter_heap wb s 0
  rw [hsz2] at IT0
  generalize hK : w.heap.size + 2 = Kb at *
  have IT : Hid ((wb.iter s 0).heap[Kb]? = some (.stringIter s 0)) := IT0
  have gi : wb.grownBy (wb.iter s 0) none := World.grownBy_alloc wb _ none
  have G3 := hid_intro (grown_trans G2.out gi)
  have X3 := hid_intro (heap_keptS XB.out gi)
  have O3 := hid_intro (own_keptD OW.out gi)
  have HK : Hid (w.heap.size < Kb) := by show _ < _; omega
  clear gi hK IT0 G2 XB OW hsz2
  generalize wb.iter s 0 = w3 at *
  go_loopw [3, 5, 6, 7] (fun s3 _ _ _ wr => ∃ (pos N : Nat) (ws : List (List UInt8)), pos ≤ s.size ∧ w.grownBy wr none ∧ wr.heap[Kb]? = some (.stringIter s pos) ∧ wr.heap[w.heap.size]? = some (.cells #[.int .i64 o.k, .int .i64 o.a, .int .i64 o.b, .int .i64 o.c, .slice ka o.key.length kc, .slice va o.val.length vc, .slice ha o.hi.length hc, .slice fa o.f.length fc] 35 (0, 0)) ∧ wr.ownsRow w.heap.size 9 1 s3 N (wv ws) ∧ ws.length = N ∧ N ≤ pos + 1 ∧ SW = ws ++ ((fs.drop pos).flatMap (wlt o) ++ o.f.map fwd)) (fun _ _ _ _ wr => s.size - wr.iterPos Kb)
  case atStart => exact ⟨0, 1, [wd], Nat.zero_le _, G3.out, IT.out, X3.out, O3.out, rfl, Nat.le_refl _, HSW.out⟩
  case round =>
    obtain ⟨pos, N, ws, hp', hg, hit, hx, ho, hNw, hNp, hsw⟩ := hrel
    have HG := hid_intro hg
    have HIT := hid_intro hit
    have HX := hid_intro hx
    have HO := hid_intro ho
    have HSW2 := hid_intro hsw
    obtain ⟨sa, sc, hs3⟩ := own_shape20 ho
    subst hs3
    have HNW := hid_intro hNw
    clear G3 IT X3 O3 HSW hg hit hx ho hsw hNw
    by_cases hps : pos < s.size
    · have hnx : ∀ ty, (Instr.next (.pointer (some ⟨Kb, 0, none⟩)) true ty).run Tryz.prog wr = _ := fun ty => Lib.run_next_any_at wr Kb s pos ty HIT.out hps
      have hgd := getD_data s pos hps
      rw [HTD.out] at hgd
      have hlp : pos < fs.length := by omega
      have hfc : fs[pos]'hlp = s[pos]'hps := by rw [← hgd, List.getD, List.getElem?_eq_getElem hlp]; rfl
      have hcf : (s[pos]'hps) ∈ fs := by rw [← hfc]; exact List.getElem_mem hlp
      have hcm : (s[pos]'hps) ∈ ltr := HFM.out _ hcf
      have hasc := ltr_asc _ hcm
      have hdec := decode_ascii s pos hps hasc
      rw [hdec] at hnx
      have hjs : (fs.drop pos).flatMap (wlt o) = wlt o (s[pos]'hps) ++ (fs.drop (pos + 1)).flatMap (wlt o) := by
        rw [List.drop_eq_getElem_cons hlp, hfc, List.flatMap_cons]
      have HJS := hid_intro hjs
      have gi := grown_iter1 wr Kb s (pos + 1)
      have GI := hid_intro (grown_iter HG.out (k := Kb) (by have := HK.out; omega) s (pos + 1))
      have II := hid_intro (Lib.iterAt_heap wr Kb s pos (pos + 1) HIT.out)
      have XI := hid_intro (heap_iterS HX.out HIT.out gi)
      have OI := hid_intro (HO.out.kept gi (own_neI HO.out HIT.out))
      have hnc := nAt_cases (s[pos]'hps) hcm w.heap.size o ka kc va vc ha hc fa fc
      have hNN := HN.out (s[pos]'hps) hcf
      have HNA := hid_intro (fun W => numberAt_any w.heap.size ((s[pos]'hps).toNat : Nat) W)
      have HBA := hid_intro (fun W => bytesAt_any w.heap.size ((s[pos]'hps).toNat : Nat) W)
      have HMS : Hid (∀ w7 : World, w7.heap[Kb]? = some (.stringIter s (pos + 1)) → s.size - w7.iterPos Kb < s.size - wr.iterPos Kb) := fun w7 h7 => by
        simp only [World.iterPos, h7, HIT.out]
        omega
      have RI := hid_intro (HR.out.keptN GI.out)
      have hbc := bAt_cases (s[pos]'hps) hcm w.heap.size _ o ka kc va vc ha hc fa fc RI.out
      have LI := hid_intro (HL.out.keptN GI.out)
      have hsI := GI.out.size
      clear hgd hlp hfc hdec hjs gi hcm hcf
      generalize hc0 : s[pos]'hps = c at *
      clear hc0
      generalize wr.iterAt Kb s (pos + 1) = wi at *
      rcases hnc with ⟨j, n, n1, n2, n3⟩ | ⟨n1, n2⟩
      · rw [n1] at HNA
        have hsm := hNN n n2
        obtain ⟨hr0, hr1⟩ := smn_le hsm
        have HWL : Hid (wlt o c = [Lib.itoa n]) := by show _ = _; unfold wlt; rw [n2]
        have cj := cell_heapS (i := j) XI.out n3
        have HIT2 := hid_intro (itoa_any n (by omega) (by omega) wi LI.out.pow)
        clear n1 n2 n3 hbc hNN hsm
        have HVS := hid_intro (wv_snoc ws (Lib.itoa n))
        have HSN : Hid (SW = (ws ++ [Lib.itoa n]) ++ ((fs.drop (pos + 1)).flatMap (wlt o) ++ o.f.map fwd)) := by show _ = _; rw [HSW2.out, HJS.out, HWL.out]; simp
        generalize Lib.itoa n = it at *
        generalize tstr it = sx at *
        go_wp2_with fail
        refine (HNA.out _).mono ?_
        rintro en w6 ⟨rfl, rfl⟩
        go_wp2_with fail
        refine HIT2.out.mono ?_
        rintro en w7 ⟨rfl, hg7⟩
        have G7 := hid_intro (grown_trans GI.out hg7)
        have I7 := hid_intro (heap_keptS II.out hg7)
        have X7 := hid_intro (heap_keptS XI.out hg7)
        have O7 := hid_intro (own_keptD OI.out hg7)
        have hs7 := G7.out.size
        clear hg7
        go_wp2_with (at_builtin; refine wpList_append_own _ rfl _ _ 56 rfl w.heap.size 9 ip (.string ⟨#[]⟩) 1 16 Tryz.underlying56 hip hp0 hp1 hp2 rfl (by decide) _ N _ rfl (O7.out.alloc _) ⟨w7.heap.size, 0, none⟩ 1 1 [.string sx] rfl rfl (cell_one20 _ _ _) (by intro u hu; simp at hu; subst hu; rfl) (by unfold maxLen; omega) (by omega) (by simp; omega) ?_)
        intro v8 w8 ho8 hg8 _
        obtain ⟨qa, qc, hv8⟩ := own_shape20 ho8
        subst hv8
        obtain ⟨k1, k2⟩ := app_kept O7.out hg8
        have O8 := hid_intro ho8
        have G8 := hid_intro (grown_app20 G7.out O7.out (Nat.le_refl _) hg8)
        have I8 := hid_intro (k1 _ _ _ I7.out)
        have X8 := hid_intro (k2 _ _ _ _ X7.out (by decide))
        clear ho8 hg8 k1 k2
        go_wp2
        go_roundw
        case rel => exact ⟨pos + 1, N + 1, ws ++ [it], by omega, G8.out, I8.out, X8.out, by rw [HVS.out]; exact O8.out, by rw [List.length_append, HNW.out]; rfl, by omega, HSN.out⟩
        case measure => exact HMS.out _ I8.out
      · rw [n1] at HNA
        rcases hbc n2 with ⟨j, z, a, cz, b1, b2, b3, b4, b5, b6⟩ | ⟨b1, b2⟩
        · rw [b1] at HBA
          have HWL : Hid (wlt o c = [hx z]) := by show _ = _; unfold wlt; rw [n2, b2]
          have cj := cell_heapS (i := j) XI.out b3
          have HHX := hid_intro (hex_any a z.length cz z wi b4 b5 (by have := HM.out; omega))
          clear n1 n2 hNN b1 b2 b3 b4 b5 b6
          have HVS := hid_intro (wv_snoc ws (hx z))
          have HSN : Hid (SW = (ws ++ [hx z]) ++ ((fs.drop (pos + 1)).flatMap (wlt o) ++ o.f.map fwd)) := by show _ = _; rw [HSW2.out, HJS.out, HWL.out]; simp
          generalize hx z = it at *
          generalize tstr it = sx at *
          go_wp2_with fail
          refine (HNA.out _).mono ?_
          rintro en w6 ⟨rfl, rfl⟩
          go_wp2_with fail
          refine (HBA.out _).mono ?_
          rintro en w6b ⟨rfl, rfl⟩
          go_wp2_with fail
          refine HHX.out.mono ?_
          rintro en w7 ⟨rfl, hg7⟩
          have G7 := hid_intro (grown_trans GI.out hg7)
          have I7 := hid_intro (heap_keptS II.out hg7)
          have X7 := hid_intro (heap_keptS XI.out hg7)
          have O7 := hid_intro (own_keptD OI.out hg7)
          have hs7 := G7.out.size
          clear hg7
          go_wp2_with (at_builtin; refine wpList_append_own _ rfl _ _ 56 rfl w.heap.size 9 ip (.string ⟨#[]⟩) 1 16 Tryz.underlying56 hip hp0 hp1 hp2 rfl (by decide) _ N _ rfl (O7.out.alloc _) ⟨w7.heap.size, 0, none⟩ 1 1 [.string sx] rfl rfl (cell_one20 _ _ _) (by intro u hu; simp at hu; subst hu; rfl) (by unfold maxLen; omega) (by omega) (by simp; omega) ?_)
          intro v8 w8 ho8 hg8 _
          obtain ⟨qa, qc, hv8⟩ := own_shape20 ho8
          subst hv8
          obtain ⟨k1, k2⟩ := app_kept O7.out hg8
          have O8 := hid_intro ho8
          have G8 := hid_intro (grown_app20 G7.out O7.out (Nat.le_refl _) hg8)
          have I8 := hid_intro (k1 _ _ _ I7.out)
          have X8 := hid_intro (k2 _ _ _ _ X7.out (by decide))
          clear ho8 hg8 k1 k2
          go_wp2
          go_roundw
          case rel => exact ⟨pos + 1, N + 1, ws ++ [it], by omega, G8.out, I8.out, X8.out, by rw [HVS.out]; exact O8.out, by rw [List.length_append, HNW.out]; rfl, by omega, HSN.out⟩
          case measure => exact HMS.out _ I8.out
        · rw [b1] at HBA
          have HWL : Hid (wlt o c = []) := by show _ = _; unfold wlt; rw [n2, b2]
          have HSN : Hid (SW = ws ++ ((fs.drop (pos + 1)).flatMap (wlt o) ++ o.f.map fwd)) := by show _ = _; rw [HSW2.out, HJS.out, HWL.out]; simp
          clear n1 n2 hNN b1 b2
          go_wp2_with fail
          refine (HNA.out _).mono ?_
          rintro en w6 ⟨rfl, rfl⟩
          go_wp2_with fail
          refine (HBA.out _).mono ?_
          rintro en w6b ⟨rfl, rfl⟩
          go_wp2
          go_roundw
          case rel => exact ⟨pos + 1, N, ws, by omega, GI.out, II.out, XI.out, OI.out, HNW.out, by omega, HSN.out⟩
          case measure => exact HMS.out _ II.out
    · obtain rfl : pos = s.size := by omega
      have hnx : ∀ ty, (Instr.next (.pointer (some ⟨Kb, 0, none⟩)) true ty).run Tryz.prog wr = _ := fun ty => Lib.run_next_end_at wr Kb s s.size ty HIT.out hps
      have HSN : Hid (SW = ws ++ o.f.map fwd) := by show _ = _; rw [HSW2.out, hzf, List.drop_length]; rfl
      have d7 := cell_heapS (i := 7) HX.out rfl
      have HFF := hid_intro (HR.out.f.keptN HG.out)
      obtain ⟨m, hm⟩ : ∃ m, o.f.length = m := ⟨_, rfl⟩
      rw [hm] at d7
      have HMN := hid_intro hm
      have hmz : (m : Int) ≤ 1048576 := by have := HMF.out; omega
      have hN5 : N ≤ 5 := by omega
      clear HSW2 hm HIT HX
      go_wp2
      generalize hwz : wr = wz at *
      clear hwz hnx
      obtain ⟨N0, hN0⟩ : ∃ N0, N0 = N := ⟨_, rfl⟩
      obtain ⟨ws0, hws0⟩ : ∃ x, x = ws := ⟨_, rfl⟩
      go_loopw [3, 9, 48] (fun s3 _ s48 wr => ∃ (i N : Nat) (ws : List (List UInt8)), i ≤ m ∧ s48 = .int .i64 (i : Nat) ∧ w.grownBy wr none ∧ FtR wr fa o.f ∧ wr.ownsRow w.heap.size 9 1 s3 N (wv ws) ∧ ws.length = N ∧ N ≤ 5 + i ∧ SW = ws ++ (o.f.drop i).map fwd) (fun _ _ s48 _ => m - (intOf s48).toNat)
      case atStart => exact ⟨0, N, ws, Nat.zero_le _, rfl, HG.out, HFF.out, HO.out, HNW.out, hN5, HSN.out⟩
      case round =>
        clear HG HFF HO HNW hN5 HSN hN0 hws0 hNp
        obtain ⟨i, N, ws, hi, rfl, hg, hf, ho, hNw, hNp, hsw⟩ := hrel
        have HG5 := hid_intro hg
        have HF5 := hid_intro hf
        have HO5 := hid_intro ho
        have HSW5 := hid_intro hsw
        obtain ⟨sa2, sc2, hs3⟩ := own_shape20 ho
        subst hs3
        have HNW := hid_intro hNw
        clear hg hf ho hsw hNw
        by_cases him : i < m
        · have e1 : (i : Int) < (m : Int) := by omega
          have e2 : (0 : Int) ≤ (i : Int) := by omega
          have hil : i < o.f.length := by rw [HMN.out]; exact him
          obtain ⟨pp, hpp⟩ : ∃ pp, o.f[i]? = some pp := ⟨_, List.getElem?_eq_getElem hil⟩
          obtain ⟨gf, off, ef, cf1, cf2⟩ := HF5.out i pp hpp
          have hpr := HF.out pp (List.mem_of_getElem? hpp)
          obtain ⟨pa, pb⟩ := pp
          have hjs : (o.f.drop i).map fwd = fwd (pa, pb) :: (o.f.drop (i + 1)).map fwd := by
            rw [List.drop_eq_getElem_cons hil, (List.getElem?_eq_some_iff.1 hpp).2]
            rfl
          have HSN : Hid (SW = (ws ++ [fwd (pa, pb)]) ++ (o.f.drop (i + 1)).map fwd) := by show _ = _; rw [HSW5.out, hjs]; simp
          subst ef
          have ga := World.grownBy_alloc wr (.cells #[.int .i64 pa, .int .i64 pb] 43) none
          have G6 := hid_intro (grown_trans HG5.out ga)
          have F6 := hid_intro (HF5.out.keptN ga)
          have O6 := hid_intro (own_keptD HO5.out ga)
          have HFW := hid_intro (fateWord_any pa pb _ (HL.out.keptN G6.out).pow hpr.1 hpr.2)
          have HVS := hid_intro (wv_snoc ws (fwd (pa, pb)))
          have hwr : IntKind.i64.wrap ((i : Int) + 1) = (i : Int) + 1 := wrap_small _ (by omega) (by omega)
          simp only at cf1 cf2
          clear ga hjs hpp hil hpr HSW5
          generalize fwd (pa, pb) = it at *
          generalize tstr it = sx at *
          go_wp2_with fail
          refine HFW.out.mono ?_
          rintro en w7 ⟨rfl, hg7⟩
          have G7 := hid_intro (grown_trans G6.out hg7)
          have F7 := hid_intro (F6.out.keptN hg7)
          have O7 := hid_intro (own_keptD O6.out hg7)
          have hs7 := G7.out.size
          clear hg7
          go_wp2_with (at_builtin; refine wpList_append_own _ rfl _ _ 56 rfl w.heap.size 9 ip (.string ⟨#[]⟩) 1 16 Tryz.underlying56 hip hp0 hp1 hp2 rfl (by decide) _ N _ rfl (O7.out.alloc _) ⟨w7.heap.size, 0, none⟩ 1 1 [.string sx] rfl rfl (cell_one20 _ _ _) (by intro u hu; simp at hu; subst hu; rfl) (by unfold maxLen; omega) (by omega) (by simp; omega) ?_)
          intro v8 w8 ho8 hg8 _
          obtain ⟨qa, qc, hv8⟩ := own_shape20 ho8
          subst hv8
          have O8 := hid_intro ho8
          have g8 := grown_app20 G7.out O7.out (Nat.le_refl _) hg8
          have G8 := hid_intro g8
          have F8 := hid_intro (HR.out.f.keptN g8)
          clear ho8 hg8 g8
          go_wp2
          go_roundw
          case rel => exact ⟨i + 1, N + 1, ws ++ [it], by omega, by go_num, G8.out, F8.out, by rw [HVS.out]; exact O8.out, by rw [List.length_append, HNW.out]; rfl, by omega, HSN.out⟩
          case measure => simp [intOf]; omega
        · obtain rfl : i = m := by omega
          have HSN : Hid (SW = ws) := by show _ = _; rw [HSW5.out, ← HMN.out, List.drop_length]; simp
          clear HSW5
          go_wp2
          go_ret
          refine ⟨sa2, sc2, ?_, ?_, HG5.out⟩
          · rw [HSN.out, HNW.out]; rfl
          · rw [HSN.out, HNW.out]; exact HO5.out
end Go.Proofs.YtcjgmiilfjjbcaaGreatDoor
