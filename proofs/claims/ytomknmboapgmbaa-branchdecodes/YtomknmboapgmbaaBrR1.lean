import Derived.Test.YtomknmboapgmbaaBrM
namespace Go.Proofs.Ytomknmboapgmbaa

/-! ### The reference's reading, pure -/

def pw : Nat → Nat
  | 0 => 1
  | 1 => 128
  | _ => 16384
def by8 (zs : List Int) (q : Nat) : Nat := (zs.getD q 0).toNat
def rlA (zs : List Int) (q : Nat) : Nat → Nat → Nat → Option (Nat × Nat)
  | 0, _, _ => none
  | f + 1, k, x =>
    if zs.length ≤ q + k then none
    else if by8 zs (q + k) < 128 then (if by8 zs (q + k) = 0 ∧ 0 < k then none else some (x + by8 zs (q + k) % 128 * pw k, q + k + 1))
    else rlA zs q f (k + 1) (x + by8 zs (q + k) % 128 * pw k)
/-- least. -/
def rl (zs : List Int) (q : Nat) : Option (Nat × Nat) := rlA zs q 3 0 0
/-- number. -/
def nm (zs : List Int) (q : Nat) : Nat := by8 zs q + by8 zs (q + 1) * 256 + by8 zs (q + 2) * 65536 + by8 zs (q + 3) * 16777216
def rkid (zs : List Int) (q : Nat) : Kd := ⟨nm zs q, nm zs (q + 4)⟩
def rLp (zs P : List Int) : Nat → Nat → List Sk → Option (List Sk)
  | 0, _, acc => some acc
  | f + 1, q, acc =>
    match rl zs q with
    | none => none
    | some (s, nx) => if zs.length < nx + s + 8 then none else rLp zs P f (nx + s + 8) (acc ++ [⟨P ++ (zs.drop nx).take s, rkid zs (nx + s)⟩])
def rcount (zs : List Int) : Nat := by8 zs 2 + 256 * by8 zs 3
def rread (zs : List Int) : Option (Kd × List Sk) :=
  match rl zs 4 with
  | none => none
  | some (p, q) => if rcount zs = 0 ∨ zs.length < q + p + 2 * (rcount zs - 1) + 8 then none else
    match rLp zs ((zs.drop q).take p) (rcount zs - 1) (q + p + 2 * (rcount zs - 1) + 8) [] with
    | none => none
    | some M => some (rkid zs (q + p + 2 * (rcount zs - 1)), M)

theorem by8_at {zs t : List Int} {p a : Nat} (h : zs.drop p = (a : Int) :: t) : by8 zs p = a ∧ p < zs.length ∧ zs.drop (p + 1) = t := by
  have hl : p < zs.length := by
    have := congrArg List.length h
    simp only [List.length_drop, List.length_cons] at this
    omega
  refine ⟨?_, hl, ?_⟩
  · have e : zs[p]? = some (a : Int) := by
      have := congrArg (fun l => l[0]?) h
      simpa [List.getElem?_drop] using this
    unfold by8
    simp [List.getD, e]
  · rw [← List.drop_drop, h]; rfl
theorem rl_at {zs t : List Int} {p x : Nat} (h : zs.drop p = vform x ++ t) (hx : x < 16384) : rl zs p = some (x, p + vl x) := by
  by_cases h1 : x < 128
  · have e : vform x = [(x : Int)] := lf_small 9 x h1
    rw [e] at h
    obtain ⟨a1, a2, _⟩ := by8_at h
    have ev : vl x = 1 := vl_small h1
    unfold rl
    rw [rlA, if_neg (by omega), Nat.add_zero, a1, if_pos h1, if_neg (by omega), ev]
    simp only [pw, Option.some.injEq, Prod.mk.injEq]
    exact ⟨by omega, trivial⟩
  · have e : vform x = ((x % 128 + 128 : Nat) : Int) :: [((x / 128 : Nat) : Int)] := by
      show lf 10 x = _
      rw [lf_big 9 x h1, lf_small 8 (x / 128) (by omega)]
    rw [e] at h
    obtain ⟨a1, a2, a3⟩ := by8_at (t := [((x / 128 : Nat) : Int)] ++ t) h
    obtain ⟨b1, b2, _⟩ := by8_at (t := t) a3
    have ev : vl x = 2 := vl_two (by omega) hx
    unfold rl
    rw [rlA, if_neg (by omega), Nat.add_zero, a1, if_neg (by omega), rlA, if_neg (by omega), show p + (0 + 1) = p + 1 by omega, b1, if_pos (by omega), if_neg (by omega), ev]
    simp only [pw, Option.some.injEq, Prod.mk.injEq]
    exact ⟨by omega, trivial⟩
theorem nm_at {zs t : List Int} {p x : Nat} (h : zs.drop p = lb 4 x ++ t) (hx : x < 4294967296) : nm zs p = x := by
  have e : lb 4 x ++ t = ((x % 256 : Nat) : Int) :: ((x / 256 % 256 : Nat) : Int) :: ((x / 256 / 256 % 256 : Nat) : Int) :: ((x / 256 / 256 / 256 % 256 : Nat) : Int) :: t := rfl
  rw [e] at h
  obtain ⟨a1, _, h⟩ := by8_at h
  obtain ⟨a2, _, h⟩ := by8_at h
  obtain ⟨a3, _, h⟩ := by8_at h
  obtain ⟨a4, _, h⟩ := by8_at h
  unfold nm
  rw [a1, a2, show p + 2 = p + 1 + 1 by omega, show p + 3 = p + 1 + 1 + 1 by omega, a3, a4]
  omega
theorem rkid_at {zs t : List Int} {p : Nat} {k : Kd} (hk : wk k = false) (h : zs.drop p = kb k ++ t) : rkid zs p = k := by
  have a := wk_parts hk
  unfold kb at h
  rw [List.append_assoc] at h
  have e1 := drop_on h
  rw [lb_len] at e1
  obtain ⟨no, ks⟩ := k
  simp only at a h e1
  unfold rkid
  rw [nm_at h (by omega), nm_at e1 (by omega)]
  rw [Int.toNat_of_nonneg (by omega), Int.toNat_of_nonneg (by omega)]
theorem rLp_at {zs P t : List Int} {q : Nat} : ∀ {M : List Sk} {p : Nat} (acc : List Sk), (∀ x ∈ M, wsep x.sep = false) → (∀ x ∈ M, wk x.kid = false) → (∀ x ∈ M, P ++ x.sep.drop q = x.sep) → zs.drop p = bcells q M ++ t → p ≤ zs.length →
    rLp zs P M.length p acc = some (acc ++ M)
  | [], _, acc, _, _, _, _, _ => by simp [rLp]
  | x :: L, p, acc, h1, h2, hk, h, hp => by
    have a := wsep_parts (h1 x List.mem_cons_self)
    have e := h
    rw [bcells, List.append_assoc] at e
    have hh := e
    unfold bcb at e
    simp only [List.append_assoc] at e
    have hd : (x.sep.drop q).length = x.sep.length - q := List.length_drop ..
    have r1 := rl_at e (by omega)
    have e1 := drop_on e
    have p1 := place_on e hp
    have e2 := drop_on e1
    have p2 := place_on e1 p1
    have e3 := drop_on e2
    have p3 := place_on e2 p2
    rw [kb_len] at e3 p3
    have r2 := rkid_at (h2 x List.mem_cons_self) e2
    have r3 := hk x List.mem_cons_self
    have r4 : (zs.drop (p + (vform (x.sep.length - q)).length)).take (x.sep.length - q) = x.sep.drop q := by
      rw [e1, ← hd, List.take_left]
    rw [hd] at e2 p2 e3 p3 r2
    have r1' : rl zs p = some (x.sep.length - q, p + (vform (x.sep.length - q)).length) := r1
    rw [List.length_cons, rLp, r1']
    simp only
    rw [if_neg (by omega), r4, r3, r2, rLp_at (t := t) (q := q) _ (fun y hy => h1 y (List.mem_cons_of_mem _ hy)) (fun y hy => h2 y (List.mem_cons_of_mem _ hy)) (fun y hy => hk y (List.mem_cons_of_mem _ hy)) e3 p3]
    simp

/-- A branch's body is read as the branch. -/
theorem rread_body {zs : List Int} {lv : Int} {k : Kd} {M : List Sk} (h : BGood zs lv k M) : (by8 zs 1 : Int) = lv ∧ rread zs = some (k, M) := by
  obtain ⟨hw, hb⟩ := h
  have hf := bwrong_fit.1 hw
  obtain ⟨hm, hp⟩ := bmany_le hf.sep hf.size
  have f1 := hf.l1
  have f2 := hf.l2
  have hkid : wk k = false := hf.kid k List.mem_cons_self
  have hks : ∀ x ∈ M, wk x.kid = false := fun x hx => hf.kid _ (List.mem_cons_of_mem _ (List.mem_map_of_mem hx))
  have hss : ∀ x ∈ M, wsep x.sep = false := fun x hx => hf.sep _ (seps_mem hx)
  have hpl : ((M.headD sk0).sep.take (bpre (seps M))).length = bpre (seps M) := by
    rw [List.length_take]
    cases M with
    | nil => rfl
    | cons x L => have := (bpre_each x.sep (seps_mem (M := x :: L) List.mem_cons_self)).1; rw [List.headD_cons]; omega
  have e0 : zs.drop 0 = lb 1 2 ++ (lb 1 lv.toNat ++ (lb 2 (M.length + 1) ++ (vform (bpre (seps M)) ++ ((M.headD sk0).sep.take (bpre (seps M)) ++ (bslots (bpre (seps M)) (bkst lv M + 8) M ++ (kb k ++ (bcells (bpre (seps M)) M ++ List.replicate (4092 - (bused lv k M).length) 0))))))) := by
    rw [List.drop_zero, ← hb]
    unfold bbody
    generalize (bused lv k M).length = z
    unfold bused
    generalize bkst lv M = y
    unfold bhead
    simp only [List.append_assoc]
  have e1 := drop_on e0
  have p1 := place_on e0 (Nat.zero_le _)
  rw [lb_len] at e1 p1
  obtain ⟨r1, _, e2⟩ := by8_at (a := lv.toNat % 256) e1
  have p2 := place_on e1 p1
  have e2' := drop_on e1
  rw [lb_len] at p2 e2'
  have e3 := drop_on e2'
  have p3 := place_on e2' p2
  rw [lb_len] at e3 p3
  obtain ⟨c1, _, q3⟩ := by8_at (a := (M.length + 1) % 256) e2'
  obtain ⟨c2, _, _⟩ := by8_at (a := (M.length + 1) / 256 % 256) q3
  have r3 := rl_at e3 (by omega)
  have e4 := drop_on e3
  have p4 := place_on e3 p3
  have e5 := drop_on e4
  have p5 := place_on e4 p4
  rw [hpl] at e5 p5
  have e6 := drop_on e5
  have p6 := place_on e5 p5
  rw [bslots_len] at e6 p6
  have r6 := rkid_at hkid e6
  have e7 := drop_on e6
  have p7 := place_on e6 p6
  rw [kb_len] at e7 p7
  have r7 := rLp_at (P := (M.headD sk0).sep.take (bpre (seps M))) (q := bpre (seps M)) [] hss hks (fun x hx => bpre_key hx) e7 p7
  have hc : rcount zs = M.length + 1 := by
    unfold rcount
    rw [show by8 zs 2 = (M.length + 1) % 256 from c1, show by8 zs 3 = (M.length + 1) / 256 % 256 from c2]
    omega
  have r4 : (zs.drop (0 + 1 + 1 + 2 + (vform (bpre (seps M))).length)).take (bpre (seps M)) = (M.headD sk0).sep.take (bpre (seps M)) := by
    rw [e4]
    have := List.take_left (l₁ := (M.headD sk0).sep.take (bpre (seps M))) (l₂ := bslots (bpre (seps M)) (bkst lv M + 8) M ++ (kb k ++ (bcells (bpre (seps M)) M ++ List.replicate (4092 - (bused lv k M).length) 0)))
    rw [hpl] at this
    exact this
  simp only [Nat.zero_add, Nat.reduceAdd] at r1 r3 r4 r6 r7 p6 p7
  refine ⟨by rw [r1]; omega, ?_⟩
  have r3' : rl zs 4 = some (bpre (seps M), 4 + (vform (bpre (seps M))).length) := r3
  unfold rread
  rw [r3', hc]
  simp only [Nat.add_sub_cancel]
  rw [if_neg (by omega), r4, r6, r7]
  simp

theorem pw_le (k : Nat) : pw k ≤ 16384 := by
  unfold pw
  split <;> omega
theorem rlA_bd {zs : List Int} {q : Nat} : ∀ (f k x : Nat) {y n : Nat}, rlA zs q f k x = some (y, n) → q + k < n ∧ n ≤ q + k + f ∧ n ≤ zs.length ∧ y ≤ x + f * 2080768
  | 0, _, _, _, _, h => by simp [rlA] at h
  | f + 1, k, x, y, n, h => by
    have hm : by8 zs (q + k) % 128 * pw k ≤ 127 * 16384 := Nat.mul_le_mul (by omega) (pw_le k)
    rw [rlA] at h
    split at h
    · cases h
    · split at h
      · split at h
        · cases h
        · simp only [Option.some.injEq, Prod.mk.injEq] at h
          omega
      · have := rlA_bd f (k + 1) _ h
        omega
theorem rl_bd {zs : List Int} {q y n : Nat} (h : rl zs q = some (y, n)) : q < n ∧ n ≤ q + 3 ∧ n ≤ zs.length ∧ y ≤ 6242304 := by
  have := rlA_bd 3 0 0 h
  omega
theorem rLp_ok {zs P : List Int} (hb : Bt zs) (hP : Bt P) : ∀ (f q : Nat) (acc : List Sk) {M : List Sk}, (∀ x ∈ acc, Bt x.sep) → rLp zs P f q acc = some M → (∀ x ∈ M, Bt x.sep) ∧ M.length = acc.length + f
  | 0, _, acc, M, h, e => by
    simp only [rLp, Option.some.injEq] at e
    subst e
    exact ⟨h, rfl⟩
  | f + 1, q, acc, M, h, e => by
    rw [rLp] at e
    split at e
    · cases e
    · split at e
      · cases e
      · rename_i s nx _ _
        have := rLp_ok hb hP f _ _ (fun x hx => by
          rcases List.mem_append.1 hx with hx | hx
          · exact h x hx
          · obtain rfl := List.mem_singleton.1 hx
            exact hP.app ((hb.drop nx).take s)) e
        refine ⟨this.1, ?_⟩
        rw [this.2, List.length_append]
        simp only [List.length_cons, List.length_nil]
        omega
end Go.Proofs.Ytomknmboapgmbaa
