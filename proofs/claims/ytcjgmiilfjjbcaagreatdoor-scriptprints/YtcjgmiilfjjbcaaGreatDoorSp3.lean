import Derived.Test.YtcjgmiilfjjbcaaGreatDoorGrpX
import Derived.Deep.QuietTactic
import Derived.Deep.RegionHeld3
import Derived.Deep.DrawnRows
namespace Go.Proofs.YtcjgmiilfjjbcaaGreatDoor
open Go.RowKit

theorem itoa_short {n : Int} (h : smn n = true) : (Lib.itoa n).length ≤ 11 := by
  have hb := smn_le h
  unfold Lib.itoa
  split
  · have := dec_len 9 n.natAbs (by rw [p10]; omega)
    simp; omega
  · have := dec_len 9 n.toNat (by rw [p10]; omega)
    omega
/-- What the document's line answers. -/
def LnP (w : World) (o : Opq) (en : Ending) (w' : World) : Prop := w.grownBy w' none ∧ ((1048585 < hln o.key + hln o.val + hln o.hi ∧ en = .returned (.tuple #[.string ⟨#[]⟩, .bool true])) ∨ (¬ 1048585 < hln o.key + hln o.val + hln o.hi ∧ en = .returned (.tuple #[.string (tstr (lin o)), .bool false])))
theorem fat_le {o : Opq} (h : JdP o) : ∀ l : List (Int × Int), (∀ p ∈ l, p ∈ o.f) → (l.flatMap fun p => 32 :: fwd p).length ≤ 13 * l.length
  | [], _ => by simp
  | p :: l, hl => by
    have ih := fat_le h l fun x hx => hl x (List.mem_cons_of_mem _ hx)
    have hp := h.f p (hl p List.mem_cons_self)
    have : (fwd p).length ≤ 12 := by
      unfold fwd
      split
      · simp
      split
      · simp
      · rename_i h0 h1
        unfold jdF at hp
        rw [if_neg (by simp [h0, h1])] at hp
        have h2 : p.1 = 2 := by by_cases e : p.1 = 2; exact e; rw [if_neg e] at hp; cases hp
        rw [if_pos h2] at hp
        have hs : smn p.2 = true := by by_cases e : smn p.2 = true; exact e; rw [if_neg e] at hp; cases hp
        exact Nat.succ_le_succ (itoa_short hs)
    rw [List.flatMap_cons, List.length_append, List.length_cons, List.length_cons]
    omega
theorem lfd_len {o : Opq} (h : JdP o) (hn : smn o.a = true ∧ smn o.b = true ∧ smn o.c = true) (h1 : o.key.length ≤ 2097152) (h2 : o.val.length ≤ 2097152) (h3 : o.hi.length ≤ 2097152) (h4 : o.f.length ≤ 1048576) (c : UInt8) : (lfd o c).length ≤ 20000000 := by
  have k1 := hx_len o.key
  have k2 := hx_len o.val
  have k3 := hx_len o.hi
  have k4 := fat_le h o.f fun _ hp => hp
  obtain ⟨s1, s2, s3⟩ := hn
  have i1 := itoa_short s1
  have i2 := itoa_short s2
  have i3 := itoa_short s3
  unfold lfd
  split
  · simp; omega
  split
  · simp; omega
  split
  · simp; omega
  split
  · simp; omega
  split
  · simp; omega
  split
  · simp; omega
  · omega
set_option maxHeartbeats 64000000 in
set_option maxRecDepth 100000 in
theorem line23 (o : Opq) (ka : Option Addr) (kc : Nat) (va : Option Addr) (vc : Nat) (ha : Option Addr) (hc : Nat) (fa : Option Addr) (fc : Nat) (w : World) (hR : OpR w o ka kc va vc ha hc fa fc) (hj : jdS o = 0) (h1 : o.key.length ≤ 2097152) (h2 : o.val.length ≤ 2097152) (h3 : o.hi.length ≤ 2097152) (h4 : o.f.length ≤ 1048576) :
    Calls Tryz.prog 29 #[.agg #[.int .i64 o.k, .int .i64 o.a, .int .i64 o.b, .int .i64 o.c, .slice ka o.key.length kc, .slice va o.val.length vc, .slice ha o.hi.length hc, .slice fa o.f.length fc]] w fun en w' => LnP w o en w' := by
  have hJ := jdp hj
  have hN : smn o.a = true ∧ smn o.b = true ∧ smn o.c = true := by
    have e := dfl_jdS o
    rw [hj] at e
    unfold dfl at e
    split at e
    · cases e
    split at e
    · cases e
    split at e
    · rename_i q; exact q
    · cases e
  have HJ := hid_intro hJ
  have HLF := hid_intro (fun c => lfd_len hJ hN h1 h2 h3 h4 c)
  have HIL : Hid ((Lib.itoa o.a).length ≤ 11 ∧ (Lib.itoa o.b).length ≤ 11 ∧ (Lib.itoa o.c).length ≤ 11) := ⟨itoa_short hN.1, itoa_short hN.2.1, itoa_short hN.2.2⟩
  obtain ⟨n1, n2, n3⟩ := hN
  have HD1 := hid_intro (fun W => decimal23 o.a n1 W)
  have HD2 := hid_intro (fun W => decimal23 o.b n2 W)
  have HD3 := hid_intro (fun W => decimal23 o.c n3 W)
  have k0 := hJ.k0
  have k1 := hJ.k1
  have HWD := hid_intro (fun W => refWord23_any o.k W)
  obtain ⟨i0, hi0⟩ : ∃ i : Nat, o.k = i := ⟨o.k.toNat, by omega⟩
  have HFD : Hid (∀ W, Calls Tryz.prog 50 #[.int .i64 o.k] W fun en w' => en = .returned (.string (tstr (fds o.k))) ∧ W.grownBy w' none) := fun W => by rw [hi0]; exact refFields23P i0 (by omega) (by omega) W
  have HIN := hid_intro (fds_in o.k)
  have hfl := fds_len o.k
  have hwl : (wrd o.k).length ≤ 20 := by
    rw [hi0]
    have : ∀ i : Fin 23, (wrd (i.val : Int)).length ≤ 20 := by decide
    exact this ⟨i0, by omega⟩
  have HLI : Hid (lin o = wrd o.k ++ (fds o.k).flatMap (lfd o) ++ [10]) := rfl
  have g1 := World.grownBy_alloc w (.cells #[.int .i64 o.k, .int .i64 o.a, .int .i64 o.b, .int .i64 o.c, .slice ka o.key.length kc, .slice va o.val.length vc, .slice ha o.hi.length hc, .slice fa o.f.length fc] 35) none
  have XP := hid_intro (heap_at0S w #[.int .i64 o.k, .int .i64 o.a, .int .i64 o.b, .int .i64 o.c, .slice ka o.key.length kc, .slice va o.val.length vc, .slice ha o.hi.length hc, .slice fa o.f.length fc] 35)
  have G1 := hid_intro g1
  have R1 := hid_intro (hR.keptN g1)
  have HH1 := hid_intro (fun W => length23 o.key ka o.key.length kc rfl h1 W)
  have HH2 := hid_intro (fun W => length23 o.val va o.val.length vc rfl h2 W)
  have HH3 := hid_intro (fun W => length23 o.hi ha o.hi.length hc rfl h3 W)
  have hb1 : hln o.key ≤ 4194305 := by unfold hln; omega
  have hb2 : hln o.val ≤ 4194305 := by unfold hln; omega
  have hb3 : hln o.hi ≤ 4194305 := by unfold hln; omega
  clear g1 hR hJ n1 n2 n3 hi0 hj
  obtain ⟨L, hL⟩ : ∃ L, lin o = L := ⟨_, rfl⟩
  obtain ⟨b1, hB1⟩ : ∃ b, hln o.key = b := ⟨_, rfl⟩
  obtain ⟨b2, hB2⟩ : ∃ b, hln o.val = b := ⟨_, rfl⟩
  obtain ⟨b3, hB3⟩ : ∃ b, hln o.hi = b := ⟨_, rfl⟩
  have HPO : Hid (∀ en w', (w.grownBy w' none ∧ ((1048585 < b1 + b2 + b3 ∧ en = .returned (.tuple #[.string ⟨#[]⟩, .bool true])) ∨ (¬ 1048585 < b1 + b2 + b3 ∧ en = .returned (.tuple #[.string (tstr L), .bool false])))) → LnP w o en w') := fun en w' h => by
    unfold LnP
    rw [hB1, hB2, hB3, hL]
    exact h
  rw [hL] at HLI
  rw [hB1] at HH1 hb1
  rw [hB2] at HH2 hb2
  rw [hB3] at HH3 hb3
  clear hL hB1 hB2 hB3
  go_enter Tryz.func29, Tryz.ntmps29
  go_upto_region 1 with fail
  generalize w.alloc (.cells #[.int .i64 o.k, .int .i64 o.a, .int .i64 o.b, .int .i64 o.c, .slice ka o.key.length kc, .slice va o.val.length vc, .slice ha o.hi.length hc, .slice fa o.f.length fc] 35) = w1 at *
  generalize w.heap.size = B at *
  obtain ⟨K, hK⟩ : ∃ K, o.k = K := ⟨_, rfl⟩
  obtain ⟨kn, hkn⟩ : ∃ n, o.key.length = n := ⟨_, rfl⟩
  obtain ⟨vn, hvn⟩ : ∃ n, o.val.length = n := ⟨_, rfl⟩
  obtain ⟨hn, hhn⟩ : ∃ n, o.hi.length = n := ⟨_, rfl⟩
  obtain ⟨fn, hfn⟩ : ∃ n, o.f.length = n := ⟨_, rfl⟩
  have RK : Hid (Byt w1 ka kn kc o.key) := by rw [← hkn]; exact R1.out.key
  have RV : Hid (Byt w1 va vn vc o.val) := by rw [← hvn]; exact R1.out.val
  have RH : Hid (Byt w1 ha hn hc o.hi) := by rw [← hhn]; exact R1.out.hi
  have HFN := hid_intro hfn
  rw [hkn] at h1 HH1
  rw [hvn] at h2 HH2
  rw [hhn] at h3 HH3
  rw [hfn] at h4
  rw [hkn, hvn, hhn, hfn, hK] at XP ⊢
  rw [hK] at HWD HFD HIN HLI hfl hwl k0 k1
  clear hkn hvn hhn hfn hK
  have x0 : w1.cell? ⟨B, 0, none⟩ = some (.int .i64 K) := cell_heapS (i := 0) XP.out rfl
  have x1 : w1.cell? ⟨B, 1, none⟩ = some (.int .i64 o.a) := cell_heapS (i := 1) XP.out rfl
  have x2 : w1.cell? ⟨B, 2, none⟩ = some (.int .i64 o.b) := cell_heapS (i := 2) XP.out rfl
  have x3 : w1.cell? ⟨B, 3, none⟩ = some (.int .i64 o.c) := cell_heapS (i := 3) XP.out rfl
  have x4 : w1.cell? ⟨B, 4, none⟩ = some (.slice ka kn kc) := cell_heapS (i := 4) XP.out rfl
  have x5 : w1.cell? ⟨B, 5, none⟩ = some (.slice va vn vc) := cell_heapS (i := 5) XP.out rfl
  have x6 : w1.cell? ⟨B, 6, none⟩ = some (.slice ha hn hc) := cell_heapS (i := 6) XP.out rfl
  have x7 : w1.cell? ⟨B, 7, none⟩ = some (.slice fa fn fc) := cell_heapS (i := 7) XP.out rfl
  have s1 : IntKind.i64.wrap ((b1 : Int) + (b2 : Int)) = (b1 : Int) + (b2 : Int) := wrap_small _ (by omega) (by omega)
  have s2 : IntKind.i64.wrap ((b1 : Int) + (b2 : Int) + (b3 : Int)) = (b1 : Int) + (b2 : Int) + (b3 : Int) := wrap_small _ (by omega) (by omega)
  have f1 : ¬ (1048576 : Int) < (fn : Int) := by omega
  have f2 : decide ((1048576 : Int) < (fn : Int)) = false := decide_eq_false f1
  have f3 : decide (1048576 < fn) = false := decide_eq_false (by omega)
  by_cases hbig : 1048585 < b1 + b2 + b3
  · have t1 : (1048585 : Int) < (b1 : Int) + (b2 : Int) + (b3 : Int) := by omega
    have t2 : decide ((1048585 : Int) < (b1 : Int) + (b2 : Int) + (b3 : Int)) = true := decide_eq_true t1
    have t3 : decide (1048585 < b1 + b2 + b3) = true := decide_eq_true hbig
    go_quiet ((go_at_call 48; first | exact Calls.quiet_of_same (HH1.out _) | exact Calls.quiet_of_same (HH2.out _) | exact Calls.quiet_of_same (HH3.out _)))
    generalize hw2 : w1.drewN nq = w2
    have g12 : w1.grownBy w2 none := by rw [← hw2]; exact (Qt.drewN _ _).grown none
    have GW := hid_intro (grown_trans G1.out g12)
    clear hw2 g12
    go_wp2
    go_ret2
    exact HPO.out _ _ ⟨GW.out, .inl ⟨hbig, rfl⟩⟩
  · have t1 : ¬ (1048585 : Int) < (b1 : Int) + (b2 : Int) + (b3 : Int) := by omega
    have t2 : decide ((1048585 : Int) < (b1 : Int) + (b2 : Int) + (b3 : Int)) = false := decide_eq_false t1
    have t3 : decide (1048585 < b1 + b2 + b3) = false := decide_eq_false hbig
    go_quiet ((go_at_call 48; first | exact Calls.quiet_of_same (HH1.out _) | exact Calls.quiet_of_same (HH2.out _) | exact Calls.quiet_of_same (HH3.out _)))
    generalize hw2 : w1.drewN nq = w2
    have g12 : w1.grownBy w2 none := by rw [← hw2]; exact (Qt.drewN _ _).grown none
    have GW := hid_intro (grown_trans G1.out g12)
    have XP1 := hid_intro XP.out
    have XP2 := hid_intro (heap_keptS XP.out g12)
    have G12 := hid_intro g12
    have HBG := hid_intro hbig
    clear hw2 g12 x0 x1 x2 x3 x4 x5 x6 x7 s1 s2 f1 f2 f3 t1 t2 t3 HH1 HH2 HH3 hbig
    have y0 := cell_heapS (i := 0) XP2.out rfl
    go_wp2_with fail
    refine (HWD.out _).mono ?_
    rintro en w3 ⟨rfl, hg3⟩
    have G3 := hid_intro (grown_trans GW.out hg3)
    have G13 := hid_intro (grown_trans G12.out hg3)
    have XP3 := hid_intro (heap_keptS XP2.out hg3)
    have HB3 : Hid (w1.heap.size ≤ w3.heap.size) := G13.out.size
    obtain ⟨W0, hW0⟩ : ∃ W0, wrd K = W0 := ⟨_, rfl⟩
    rw [hW0] at HLI hwl ⊢
    have hcv := Lib.run_convert_string_bytes (P := Tryz.prog) w3 9 32 5 (tstr W0) (u := .string) Tryz.underlying9 Tryz.underlying32 Tryz.underlying5
    have OG := hid_intro (conv_og w3 W0 (by omega))
    have gB := bytesW_grownD w3 5 (tstr W0)
    have G4 := hid_intro (grown_trans G3.out gB)
    have G14 := hid_intro (grown_trans G13.out gB)
    have XP4 := hid_intro (heap_keptS XP3.out gB)
    have HWZ := hid_intro (tstr_size W0)
    clear hg3 y0 hW0 gB XP2 XP3 G12 G13 GW
    go_upto_region 4 with fail
    generalize Lib.bytesWorld w3 5 (tstr W0) = w4 at *
    generalize grownCap w3 (tstr W0).size 0 5 = cp at *
    have HBB : Hid (w1.heap.size ≤ w3.heap.size) := HB3.out
    generalize w3.heap.size = BB at *
    have y0 := cell_heapS (i := 0) XP4.out rfl
    go_wp2_with fail
    refine (HFD.out _).mono ?_
    rintro en w5 ⟨rfl, hg5⟩
    have G15 := hid_intro (grown_trans G14.out hg5)
    have OG5 := hid_intro (OG.out.kept hg5)
    obtain ⟨fs, hfs⟩ : ∃ fs, fds K = fs := ⟨_, rfl⟩
    rw [hfs] at HIN hfl HLI ⊢
    have hzf := tstr_size fs
    have HTD := hid_intro (tstr_data fs)
    have hs4 : (tstr fs).size ≤ 4 := by omega
    have HZF := hid_intro hzf
    clear hg5 y0 hfs hzf hfl hcv OG XP4 G4 G14
    generalize tstr fs = s at *
    rw [HWZ.out] at OG5 ⊢
    go_wp2
    go_loopw [4, 6, 7, 8] (fun st si _ _ wr => ∃ i : Nat, i ≤ s.size ∧ si = .int .i64 (i : Nat) ∧ Og wr BB st (W0 ++ (fs.take i).flatMap (lfd o)) ∧ (W0 ++ (fs.take i).flatMap (lfd o)).length ≤ 20 + i * 20000000 ∧ w1.grownBy wr none) (fun _ si _ _ _ => s.size - (intOf si).toNat)
    case atStart => exact ⟨0, Nat.zero_le _, rfl, by simpa using OG5.out, by simpa using hwl, G15.out⟩
    case round =>
      obtain ⟨i, hi, rfl, hog, hlen, hg1⟩ := hrel
      have HOG := hid_intro hog
      have HG1 := hid_intro hg1
      have XP := hid_intro (heap_keptS XP1.out hg1)
      obtain ⟨sa, sc, hst⟩ := hog.shape
      subst hst
      clear hog hg1 OG5 G15
      by_cases hlt : i < s.size
      · have e1 : (i : Int) < (s.size : Int) := by omega
        have e2 : (0 : Int) ≤ (i : Int) := by omega
        have hfl2 : i < fs.length := by have := HZF.out; omega
        have hgd := getD_data s i hlt
        rw [HTD.out] at hgd
        have hfc : fs[i]'hfl2 = s[i]'hlt := by rw [← hgd, List.getD, List.getElem?_eq_getElem hfl2]; rfl
        have hc7 := HIN.out _ (List.getElem_mem hfl2)
        have htk : fs.take (i + 1) = fs.take i ++ [fs[i]'hfl2] := by rw [List.take_add_one, List.getElem?_eq_getElem hfl2]; rfl
        have wi : IntKind.i64.wrap ((i : Int) + 1) = (i : Int) + 1 := wrap_small _ (by omega) (by omega)
        have hll := HLF.out (fs[i]'hfl2)
        have HTX : Hid (W0 ++ (fs.take (i + 1)).flatMap (lfd o) = (W0 ++ (fs.take i).flatMap (lfd o)) ++ lfd o (fs[i]'hfl2)) := by show _ = _; rw [htk, List.flatMap_append, ← List.append_assoc]; simp
        rw [hfc] at hc7 HTX hll
        clear hgd hfc hfl2 htk
        obtain ⟨X, hX⟩ : ∃ X, W0 ++ (fs.take i).flatMap (lfd o) = X := ⟨_, rfl⟩
        rw [hX] at HOG hlen HTX ⊢
        clear hX
        obtain ⟨XN, hXN⟩ : ∃ n, X.length = n := ⟨_, rfl⟩
        have HOGX := hid_intro HOG.out
        rw [hXN] at HOG HOGX hlen ⊢
        have HXN := hid_intro hXN
        clear hXN
        have HNX : Hid (X.length + (lfd o (s[i]'hlt)).length ≤ 20 + (i + 1) * 20000000) := by have := HXN.out; show _ ≤ _; omega
        have hbs := HOG.out.size
        unfold ltr at hc7
        simp only [List.mem_cons, List.not_mem_nil, or_false] at hc7
        generalize hch : s[i]'hlt = ch at *
        rcases hc7 with rfl | rfl | rfl | rfl | rfl | rfl | rfl
        · have hcn : (s[i]'hlt).toNat = 65 := by rw [hch]; rfl
          have HLD : Hid ((⟨#[32]⟩ : ByteArray) ++ tstr (Lib.itoa o.a) = tstr (lfd o 65)) := by
            show tstr [32] ++ tstr (Lib.itoa o.a) = _
            rw [tstr_app]
            rfl
          have hil : (Lib.itoa o.a).length ≤ 11 := HIL.out.1
          have z1 := tstr_size (Lib.itoa o.a)
          have z2 : (⟨#[32]⟩ : ByteArray).size = 1 := rfl
          have z3 : ¬ (9223372036854775807 < 1 + (tstr (Lib.itoa o.a)).size) := by rw [z1]; omega
          have d1 := cell_heapS (i := 1) XP.out rfl
          clear hch z1 hil
          generalize tstr (Lib.itoa o.a) = D at *
          go_wp2_with fail
          refine (HD1.out _).mono ?_
          rintro en w7 ⟨rfl, hw7⟩
          rw [hw7]
          clear hw7
          go_wp2_with (at_builtin; refine wpList_append_og rfl _ _ rfl BB (.slice sa XN sc) X rfl HOG.out _ (lfd o 65) HLD.out rfl (by have := HNX.out; omega) hbs ?_)
          intro v8 w8 ho8 hg8
          rw [← HTX.out] at ho8
          have HO8 := hid_intro ho8
          have hl8 : (W0 ++ (fs.take (i + 1)).flatMap (lfd o)).length ≤ 20 + (i + 1) * 20000000 := by rw [HTX.out, List.length_append]; exact HNX.out
          have HL8 := hid_intro hl8
          have G8 := hid_intro (grown_og HG1.out HOG.out HBB.out hg8)
          clear ho8 hg8 hl8
          go_wp2
          go_roundw
          case rel => exact ⟨i + 1, by omega, by go_num, HO8.out, HL8.out, G8.out⟩
          case measure => simp [intOf]; omega
        · have hcn : (s[i]'hlt).toNat = 66 := by rw [hch]; rfl
          have HLD : Hid ((⟨#[32]⟩ : ByteArray) ++ tstr (Lib.itoa o.b) = tstr (lfd o 66)) := by
            show tstr [32] ++ tstr (Lib.itoa o.b) = _
            rw [tstr_app]
            rfl
          have hil : (Lib.itoa o.b).length ≤ 11 := HIL.out.2.1
          have z1 := tstr_size (Lib.itoa o.b)
          have z2 : (⟨#[32]⟩ : ByteArray).size = 1 := rfl
          have z3 : ¬ (9223372036854775807 < 1 + (tstr (Lib.itoa o.b)).size) := by rw [z1]; omega
          have d2 := cell_heapS (i := 2) XP.out rfl
          clear hch z1 hil
          generalize tstr (Lib.itoa o.b) = D at *
          go_wp2_with fail
          refine (HD2.out _).mono ?_
          rintro en w7 ⟨rfl, hw7⟩
          rw [hw7]
          clear hw7
          go_wp2_with (at_builtin; refine wpList_append_og rfl _ _ rfl BB (.slice sa XN sc) X rfl HOG.out _ (lfd o 66) HLD.out rfl (by have := HNX.out; omega) hbs ?_)
          intro v8 w8 ho8 hg8
          rw [← HTX.out] at ho8
          have HO8 := hid_intro ho8
          have hl8 : (W0 ++ (fs.take (i + 1)).flatMap (lfd o)).length ≤ 20 + (i + 1) * 20000000 := by rw [HTX.out, List.length_append]; exact HNX.out
          have HL8 := hid_intro hl8
          have G8 := hid_intro (grown_og HG1.out HOG.out HBB.out hg8)
          clear ho8 hg8 hl8
          go_wp2
          go_roundw
          case rel => exact ⟨i + 1, by omega, by go_num, HO8.out, HL8.out, G8.out⟩
          case measure => simp [intOf]; omega
        · have hcn : (s[i]'hlt).toNat = 67 := by rw [hch]; rfl
          have HLD : Hid ((⟨#[32]⟩ : ByteArray) ++ tstr (Lib.itoa o.c) = tstr (lfd o 67)) := by
            show tstr [32] ++ tstr (Lib.itoa o.c) = _
            rw [tstr_app]
            rfl
          have hil : (Lib.itoa o.c).length ≤ 11 := HIL.out.2.2
          have z1 := tstr_size (Lib.itoa o.c)
          have z2 : (⟨#[32]⟩ : ByteArray).size = 1 := rfl
          have z3 : ¬ (9223372036854775807 < 1 + (tstr (Lib.itoa o.c)).size) := by rw [z1]; omega
          have d3 := cell_heapS (i := 3) XP.out rfl
          clear hch z1 hil
          generalize tstr (Lib.itoa o.c) = D at *
          go_wp2_with fail
          refine (HD3.out _).mono ?_
          rintro en w7 ⟨rfl, hw7⟩
          rw [hw7]
          clear hw7
          go_wp2_with (at_builtin; refine wpList_append_og rfl _ _ rfl BB (.slice sa XN sc) X rfl HOG.out _ (lfd o 67) HLD.out rfl (by have := HNX.out; omega) hbs ?_)
          intro v8 w8 ho8 hg8
          rw [← HTX.out] at ho8
          have HO8 := hid_intro ho8
          have hl8 : (W0 ++ (fs.take (i + 1)).flatMap (lfd o)).length ≤ 20 + (i + 1) * 20000000 := by rw [HTX.out, List.length_append]; exact HNX.out
          have HL8 := hid_intro hl8
          have G8 := hid_intro (grown_og HG1.out HOG.out HBB.out hg8)
          clear ho8 hg8 hl8
          go_wp2
          go_roundw
          case rel => exact ⟨i + 1, by omega, by go_num, HO8.out, HL8.out, G8.out⟩
          case measure => simp [intOf]; omega
        · have hcn : (s[i]'hlt).toNat = 75 := by rw [hch]; rfl
          have HLD : Hid ((⟨#[32]⟩ : ByteArray) ++ tstr (hx o.key) = tstr (lfd o 75)) := by
            show tstr [32] ++ tstr (hx o.key) = _
            rw [tstr_app]
            rfl
          have hxl := hx_len o.key
          have hkl := RK.out.len
          have z1 := tstr_size (hx o.key)
          have z2 : (⟨#[32]⟩ : ByteArray).size = 1 := rfl
          have z3 : ¬ (9223372036854775807 < 1 + (tstr (hx o.key)).size) := by rw [z1]; omega
          have d4 := cell_heapS (i := 4) XP.out rfl
          have HHX := hid_intro (refHex_any ka kn kc o.key wr (RK.out.keptN HG1.out) R1.out.bk (by omega))
          clear hch z1 hxl hkl
          generalize tstr (hx o.key) = D at *
          go_wp2_with fail
          refine HHX.out.mono ?_
          rintro en w7 ⟨rfl, hg7⟩
          have G7 := hid_intro (grown_trans HG1.out hg7)
          have OG7 := hid_intro (HOG.out.kept hg7)
          have hb7 := OG7.out.size
          clear hg7 HHX
          go_wp2_with (at_builtin; refine wpList_append_og rfl _ _ rfl BB (.slice sa XN sc) X rfl OG7.out _ (lfd o 75) HLD.out rfl (by have := HNX.out; omega) hb7 ?_)
          intro v8 w8 ho8 hg8
          rw [← HTX.out] at ho8
          have HO8 := hid_intro ho8
          have hl8 : (W0 ++ (fs.take (i + 1)).flatMap (lfd o)).length ≤ 20 + (i + 1) * 20000000 := by rw [HTX.out, List.length_append]; exact HNX.out
          have HL8 := hid_intro hl8
          have G8 := hid_intro (grown_og G7.out HOG.out HBB.out hg8)
          clear ho8 hg8 hl8
          go_wp2
          go_roundw
          case rel => exact ⟨i + 1, by omega, by go_num, HO8.out, HL8.out, G8.out⟩
          case measure => simp [intOf]; omega
        · have hcn : (s[i]'hlt).toNat = 86 := by rw [hch]; rfl
          have HLD : Hid ((⟨#[32]⟩ : ByteArray) ++ tstr (hx o.val) = tstr (lfd o 86)) := by
            show tstr [32] ++ tstr (hx o.val) = _
            rw [tstr_app]
            rfl
          have hxl := hx_len o.val
          have hkl := RV.out.len
          have z1 := tstr_size (hx o.val)
          have z2 : (⟨#[32]⟩ : ByteArray).size = 1 := rfl
          have z3 : ¬ (9223372036854775807 < 1 + (tstr (hx o.val)).size) := by rw [z1]; omega
          have d5 := cell_heapS (i := 5) XP.out rfl
          have HHX := hid_intro (refHex_any va vn vc o.val wr (RV.out.keptN HG1.out) R1.out.bv (by omega))
          clear hch z1 hxl hkl
          generalize tstr (hx o.val) = D at *
          go_wp2_with fail
          refine HHX.out.mono ?_
          rintro en w7 ⟨rfl, hg7⟩
          have G7 := hid_intro (grown_trans HG1.out hg7)
          have OG7 := hid_intro (HOG.out.kept hg7)
          have hb7 := OG7.out.size
          clear hg7 HHX
          go_wp2_with (at_builtin; refine wpList_append_og rfl _ _ rfl BB (.slice sa XN sc) X rfl OG7.out _ (lfd o 86) HLD.out rfl (by have := HNX.out; omega) hb7 ?_)
          intro v8 w8 ho8 hg8
          rw [← HTX.out] at ho8
          have HO8 := hid_intro ho8
          have hl8 : (W0 ++ (fs.take (i + 1)).flatMap (lfd o)).length ≤ 20 + (i + 1) * 20000000 := by rw [HTX.out, List.length_append]; exact HNX.out
          have HL8 := hid_intro hl8
          have G8 := hid_intro (grown_og G7.out HOG.out HBB.out hg8)
          clear ho8 hg8 hl8
          go_wp2
          go_roundw
          case rel => exact ⟨i + 1, by omega, by go_num, HO8.out, HL8.out, G8.out⟩
          case measure => simp [intOf]; omega
        · have hcn : (s[i]'hlt).toNat = 72 := by rw [hch]; rfl
          have HLD : Hid ((⟨#[32]⟩ : ByteArray) ++ tstr (hx o.hi) = tstr (lfd o 72)) := by
            show tstr [32] ++ tstr (hx o.hi) = _
            rw [tstr_app]
            rfl
          have hxl := hx_len o.hi
          have hkl := RH.out.len
          have z1 := tstr_size (hx o.hi)
          have z2 : (⟨#[32]⟩ : ByteArray).size = 1 := rfl
          have z3 : ¬ (9223372036854775807 < 1 + (tstr (hx o.hi)).size) := by rw [z1]; omega
          have d6 := cell_heapS (i := 6) XP.out rfl
          have HHX := hid_intro (refHex_any ha hn hc o.hi wr (RH.out.keptN HG1.out) R1.out.bh (by omega))
          clear hch z1 hxl hkl
          generalize tstr (hx o.hi) = D at *
          go_wp2_with fail
          refine HHX.out.mono ?_
          rintro en w7 ⟨rfl, hg7⟩
          have G7 := hid_intro (grown_trans HG1.out hg7)
          have OG7 := hid_intro (HOG.out.kept hg7)
          have hb7 := OG7.out.size
          clear hg7 HHX
          go_wp2_with (at_builtin; refine wpList_append_og rfl _ _ rfl BB (.slice sa XN sc) X rfl OG7.out _ (lfd o 72) HLD.out rfl (by have := HNX.out; omega) hb7 ?_)
          intro v8 w8 ho8 hg8
          rw [← HTX.out] at ho8
          have HO8 := hid_intro ho8
          have hl8 : (W0 ++ (fs.take (i + 1)).flatMap (lfd o)).length ≤ 20 + (i + 1) * 20000000 := by rw [HTX.out, List.length_append]; exact HNX.out
          have HL8 := hid_intro hl8
          have G8 := hid_intro (grown_og G7.out HOG.out HBB.out hg8)
          clear ho8 hg8 hl8
          go_wp2
          go_roundw
          case rel => exact ⟨i + 1, by omega, by go_num, HO8.out, HL8.out, G8.out⟩
          case measure => simp [intOf]; omega
        · have hcn : (s[i]'hlt).toNat = 70 := by rw [hch]; rfl
          have HLF7 : Hid (lfd o 70 = o.f.flatMap fun p => 32 :: fwd p) := rfl
          have RF := hid_intro (R1.out.f.keptN HG1.out)
          clear hch
          go_wp2
          go_loopw [4, 7, 8] (fun st sk _ wr => ∃ k : Nat, k ≤ fn ∧ sk = .int .i64 (k : Nat) ∧ Og wr BB st (X ++ (o.f.take k).flatMap fun p => 32 :: fwd p) ∧ w1.grownBy wr none) (fun _ sk _ _ => fn - (intOf sk).toNat)
          case atStart => exact ⟨0, Nat.zero_le _, rfl, by rw [List.take_zero, List.flatMap_nil, List.append_nil]; exact HOGX.out, HG1.out⟩
          case round =>
            obtain ⟨k, hk, rfl, hog, hg2⟩ := hrel
            have HOG2 := hid_intro hog
            have HG2 := hid_intro hg2
            have d7 := cell_heapS (i := 7) (heap_keptS XP1.out hg2) rfl
            obtain ⟨ta, tc, hst⟩ := hog.shape
            subst hst
            have hkl : (X ++ (o.f.take k).flatMap fun p => 32 :: fwd p).length ≤ 90000000 + 13 * k := by
              have h1 := fat_le HJ.out (o.f.take k) (fun p hp => List.mem_of_mem_take hp)
              have h2 := HXN.out
              rw [List.length_append]
              have h3 : (o.f.take k).length ≤ k := by rw [List.length_take]; omega
              omega
            have HKL := hid_intro hkl
            clear hog hg2 hkl
            obtain ⟨Y, hY⟩ : ∃ Y, (X ++ (o.f.take k).flatMap fun p => 32 :: fwd p) = Y := ⟨_, rfl⟩
            have HY := hid_intro hY
            rw [hY] at HOG2 HKL ⊢
            clear hY
            obtain ⟨YN, hYN⟩ : ∃ n, Y.length = n := ⟨_, rfl⟩
            rw [hYN] at HOG2 HKL ⊢
            have HYN := hid_intro hYN
            clear hYN
            have hbs2 := HOG2.out.size
            have hyl := HKL.out
            by_cases hkf : k < fn
            · have e3 : (k : Int) < (fn : Int) := by omega
              have e4 : (0 : Int) ≤ (k : Int) := by omega
              have wk : IntKind.i64.wrap ((k : Int) + 1) = (k : Int) + 1 := wrap_small _ (by omega) (by omega)
              obtain ⟨p, hp⟩ : ∃ p, o.f[k]? = some p := ⟨_, List.getElem?_eq_getElem (by have := HFN.out; omega)⟩
              have hpj := HJ.out.f p (List.mem_of_getElem? hp)
              obtain ⟨g, off, ea, c1, c2⟩ := (R1.out.f.keptN HG2.out) k p hp
              subst ea
              have HTK : Hid ((X ++ (o.f.take (k + 1)).flatMap fun p => 32 :: fwd p) = Y ++ (32 :: fwd p)) := by
                show _ = _
                have e : o.f.take (k + 1) = o.f.take k ++ [p] := by rw [List.take_add_one, hp]; rfl
                rw [e, List.flatMap_append, ← List.append_assoc, HY.out]
                simp
              obtain ⟨px, py⟩ := p
              simp only at c1 c2
              have ga := World.grownBy_alloc wr (.cells #[.string ⟨#[32, 108]⟩, .string ⟨#[32, 107]⟩, .string ⟨#[32, 116]⟩] 9) none
              have OGA := hid_intro (HOG2.out.kept ga)
              have GA := hid_intro (grown_trans HG2.out ga)
              have k1 := cell_keptS c1 ga
              have k2 := cell_keptS c2 ga
              have k7 := cell_keptS d7 ga
              clear hp ga
              unfold jdF at hpj
              simp only at hpj
              by_cases p0 : px = 0
              · subst p0
                have HW : Hid ((⟨#[32, 108]⟩ : ByteArray) = tstr (32 :: fwd (0, py))) := rfl
                clear hpj
                go_wp2_with (at_builtin; refine wpList_append_og rfl _ _ rfl BB (.slice ta YN tc) Y rfl OGA.out _ (32 :: fwd (0, py)) HW.out rfl (by have := HYN.out; simp [fwd]; omega) (by simp; omega) ?_)
                intro v8 w8 ho8 hg8
                rw [← HTK.out] at ho8
                have HO8 := hid_intro ho8
                have G8 := hid_intro (grown_og GA.out HOG2.out HBB.out hg8)
                clear ho8 hg8
                go_wp2
                go_roundw
                case rel => exact ⟨k + 1, by omega, by go_num, HO8.out, G8.out⟩
                case measure => simp [intOf]; omega
              · by_cases p1 : px = 1
                · subst p1
                  have HW : Hid ((⟨#[32, 107]⟩ : ByteArray) = tstr (32 :: fwd (1, py))) := rfl
                  clear hpj
                  go_wp2_with (at_builtin; refine wpList_append_og rfl _ _ rfl BB (.slice ta YN tc) Y rfl OGA.out _ (32 :: fwd (1, py)) HW.out rfl (by have := HYN.out; simp [fwd]; omega) (by simp; omega) ?_)
                  intro v8 w8 ho8 hg8
                  rw [← HTK.out] at ho8
                  have HO8 := hid_intro ho8
                  have G8 := hid_intro (grown_og GA.out HOG2.out HBB.out hg8)
                  clear ho8 hg8
                  go_wp2
                  go_roundw
                  case rel => exact ⟨k + 1, by omega, by go_num, HO8.out, G8.out⟩
                  case measure => simp [intOf]; omega
                · rw [if_neg (by simp [p0, p1])] at hpj
                  have p2 : px = 2 := by by_cases e : px = 2; exact e; rw [if_neg e] at hpj; cases hpj
                  rw [if_pos p2] at hpj
                  have hs : smn py = true := by by_cases e : smn py = true; exact e; rw [if_neg e] at hpj; cases hpj
                  subst p2
                  have HDP := hid_intro (fun W => decimal23 py hs W)
                  have HW : Hid ((⟨#[32, 116]⟩ : ByteArray) ++ tstr (Lib.itoa py) = tstr (32 :: fwd (2, py))) := by
                    show tstr [32, 116] ++ tstr (Lib.itoa py) = _
                    rw [tstr_app]
                    rfl
                  have hil := itoa_short hs
                  have z1 := tstr_size (Lib.itoa py)
                  have z2 : (⟨#[32, 116]⟩ : ByteArray).size = 2 := rfl
                  have z3 : ¬ (9223372036854775807 < 2 + (tstr (Lib.itoa py)).size) := by rw [z1]; omega
                  have hfl3 : (32 :: fwd (2, py)).length ≤ 13 := by simp [fwd]; omega
                  clear hpj z1 hil
                  generalize tstr (Lib.itoa py) = D at *
                  go_wp2_with fail
                  refine (HDP.out _).mono ?_
                  rintro en w7 ⟨rfl, hw7⟩
                  rw [hw7]
                  clear hw7
                  go_wp2_with (at_builtin; refine wpList_append_og rfl _ _ rfl BB (.slice ta YN tc) Y rfl OGA.out _ (32 :: fwd (2, py)) HW.out rfl (by have := HYN.out; omega) (by simp; omega) ?_)
                  intro v8 w8 ho8 hg8
                  rw [← HTK.out] at ho8
                  have HO8 := hid_intro ho8
                  have G8 := hid_intro (grown_og GA.out HOG2.out HBB.out hg8)
                  clear ho8 hg8
                  go_wp2
                  go_roundw
                  case rel => exact ⟨k + 1, by omega, by go_num, HO8.out, G8.out⟩
                  case measure => simp [intOf]; omega
            · obtain rfl : k = fn := by omega
              have HY2 : Hid (X ++ lfd o 70 = Y) := by show _ = _; rw [HLF7.out, ← HY.out, List.take_of_length_le (by have := HFN.out; omega)]
              have OG8 : Hid (Og wr BB (.slice ta YN tc) (W0 ++ (fs.take (i + 1)).flatMap (lfd o))) := by show Og _ _ _ _; rw [HTX.out, HY2.out]; exact HOG2.out
              have hl8 : (W0 ++ (fs.take (i + 1)).flatMap (lfd o)).length ≤ 20 + (i + 1) * 20000000 := by rw [HTX.out, List.length_append]; exact HNX.out
              have HL8 := hid_intro hl8
              clear hl8 hkf hk
              go_wp2
              go_roundw
              case rel => exact ⟨i + 1, by omega, by go_num, OG8.out, HL8.out, HG2.out⟩
              case measure => simp [intOf]; omega
      · obtain rfl : i = s.size := by omega
        have HX2 : Hid (W0 ++ (fs.take s.size).flatMap (lfd o) = W0 ++ fs.flatMap (lfd o)) := by show _ = _; rw [List.take_of_length_le (by have := HZF.out; omega)]
        rw [HX2.out] at HOG hlen ⊢
        obtain ⟨X, hX⟩ : ∃ X, W0 ++ fs.flatMap (lfd o) = X := ⟨_, rfl⟩
        rw [hX] at HOG hlen HLI ⊢
        clear hX HX2 hi hlt
        obtain ⟨XN, hXN⟩ : ∃ n, X.length = n := ⟨_, rfl⟩
        rw [hXN] at HOG hlen ⊢
        have HXN := hid_intro hXN
        clear hXN
        have hbs := HOG.out.size
        go_wp2_with (at_builtin; refine wpList_append_og1 rfl _ _ rfl BB (.slice sa XN sc) X rfl (HOG.out.kept (World.grownBy_alloc wr _ none)) ⟨wr.heap.size, 0, none⟩ 1 1 [10] rfl rfl (by exact cell_one20 _ _ _) (by have := HXN.out; simp; omega) (by simp; omega) ?_)
        intro v8 w8 ho8 hg8
        obtain ⟨a8, c8, hv8⟩ := ho8.shape
        obtain ⟨M8, hM8⟩ : ∃ M, (X ++ [10]).length = M := ⟨_, rfl⟩
        rw [hM8] at hv8
        subst hv8
        have hcv := conv_ogS ho8
        clear hM8
        have G8 := hid_intro (grown_og (grown_trans HG1.out (World.grownBy_alloc wr (.cells #[.int .u8 10] 5) none)) HOG.out HBB.out hg8)
        rw [← HLI.out] at hcv
        clear ho8 hg8
        generalize tstr L = sL at *
        go_wp2
        go_ret2
        exact HPO.out _ _ ⟨grown_trans G1.out G8.out, .inr ⟨HBG.out, rfl⟩⟩
end Go.Proofs.YtcjgmiilfjjbcaaGreatDoor
