import Derived.Test.YtomknmboapgmbaaBrM
import Derived.Test.YtomknmboapgmbaaBrG
namespace Go.Proofs.Ytomknmboapgmbaa

/-! ### The body as it is laid out -/

theorem bcells_snoc (p : Nat) : ∀ (L : List Sk) (i : Nat), i < L.length → bcells p (L.take (i + 1)) = bcells p (L.take i) ++ bcb p (L.getD i sk0)
  | x :: L, 0, _ => by simp [bcells]
  | x :: L, i + 1, h => by
    have := bcells_snoc p L i (by simpa using h)
    simp only [List.take_succ_cons, bcells, List.getD_cons_succ]
    rw [this, List.append_assoc]
theorem bslots_snoc (p : Nat) : ∀ (L : List Sk) (a i : Nat), i < L.length → bslots p a (L.take (i + 1)) = bslots p a (L.take i) ++ lb 2 (a + (bcells p (L.take i)).length)
  | x :: L, a, 0, _ => by simp [bslots, bcells]
  | x :: L, a, i + 1, h => by
    have := bslots_snoc p L (a + (bcb p x).length) i (by simpa using h)
    simp only [List.take_succ_cons, bslots, bcells]
    rw [this, List.append_assoc, List.length_append, Nat.add_assoc]

/-- Where the cells begin. -/
def bcst (lv : Int) (L : List Sk) : Nat := bkst lv L + 8
/-- The body when i separators are laid. -/
def blaid (lv : Int) (k : Kd) (L : List Sk) (i : Nat) : List Int :=
  bhead lv L ++ (bslots (bpre (seps L)) (bcst lv L) (L.take i) ++ (List.replicate (2 * (L.length - i)) 0 ++ (kb k ++ (bcells (bpre (seps L)) (L.take i) ++ List.replicate (4092 - (bcst lv L + (bcells (bpre (seps L)) (L.take i)).length)) 0))))

theorem bcells_mono (p : Nat) : ∀ (L : List Sk) (i : Nat), (bcells p (L.take i)).length ≤ (bcells p L).length
  | [], i => by simp [bcells]
  | x :: L, 0 => by simp [bcells]
  | x :: L, i + 1 => by
    have := bcells_mono p L i
    simp only [List.take_succ_cons, bcells, List.length_append]
    omega

theorem blaid_zero (lv : Int) (k : Kd) (L : List Sk) (h : bcst lv L ≤ 4092) : splice (splice (List.replicate 4092 0) 0 (bhead lv L)) (bkst lv L) (kb k) = blaid lv k L 0 := by
  have h' : (bhead lv L).length + 2 * L.length + 8 ≤ 4092 := h
  have e1 : splice (List.replicate 4092 0) 0 (bhead lv L) = (bhead lv L ++ List.replicate (2 * L.length) 0) ++ (List.replicate 8 0 ++ List.replicate (4092 - bcst lv L) 0) := by
    unfold splice
    rw [List.take_zero, List.nil_append, Nat.zero_add, List.drop_replicate, List.replicate_append_replicate, List.append_assoc, List.replicate_append_replicate]
    congr 2
    have : bcst lv L = (bhead lv L).length + 2 * L.length + 8 := rfl
    omega
  rw [e1, splice_mid (by rw [List.length_append, List.length_replicate]; rfl) (by rw [kb_len, List.length_replicate])]
  unfold blaid
  simp only [List.take_zero, bslots, bcells, List.nil_append, List.length_nil, Nat.add_zero, Nat.sub_zero, List.append_assoc]

theorem blaid_all (lv : Int) (k : Kd) (L : List Sk) : blaid lv k L L.length = bbody lv k L := by
  unfold blaid bbody
  rw [List.take_length, Nat.sub_self, Nat.mul_zero, List.replicate_zero, List.nil_append]
  have e : 4092 - (bcst lv L + (bcells (bpre (seps L)) L).length) = 4092 - (bused lv k L).length := by
    unfold bused
    rw [List.length_append, List.length_append, List.length_append, bslots_len, kb_len]; unfold bcst bkst; omega
  rw [e]
  generalize 4092 - (bused lv k L).length = z
  unfold bused bcst
  simp only [List.append_assoc]

theorem blaid_step (lv : Int) (k : Kd) (L : List Sk) (i : Nat) (hi : i < L.length) (h : bcst lv L + (bcells (bpre (seps L)) (L.take i)).length + (bcb (bpre (seps L)) (L.getD i sk0)).length ≤ 4092) :
    splice (splice (blaid lv k L i) ((bhead lv L).length + 2 * i) (lb 2 (bcst lv L + (bcells (bpre (seps L)) (L.take i)).length))) (bcst lv L + (bcells (bpre (seps L)) (L.take i)).length) (bcb (bpre (seps L)) (L.getD i sk0)) = blaid lv k L (i + 1) := by
  have hs := bslots_len (bpre (seps L)) (L.take i) (bcst lv L)
  rw [List.length_take] at hs
  have e1 : splice (blaid lv k L i) ((bhead lv L).length + 2 * i) (lb 2 (bcst lv L + (bcells (bpre (seps L)) (L.take i)).length)) =
      (bhead lv L ++ bslots (bpre (seps L)) (bcst lv L) (L.take (i + 1))) ++ (List.replicate (2 * (L.length - (i + 1))) 0 ++ (kb k ++ (bcells (bpre (seps L)) (L.take i) ++ List.replicate (4092 - (bcst lv L + (bcells (bpre (seps L)) (L.take i)).length)) 0))) := by
    unfold blaid
    rw [show 2 * (L.length - i) = 2 + 2 * (L.length - (i + 1)) by omega, ← List.replicate_append_replicate, List.append_assoc (List.replicate 2 0), ← List.append_assoc (bhead lv L), splice_mid (by rw [List.length_append, hs]; omega) (by rw [lb_len, List.length_replicate]), bslots_snoc _ _ _ _ hi]
    simp only [List.append_assoc]
  rw [e1]
  have hs1 := bslots_len (bpre (seps L)) (L.take (i + 1)) (bcst lv L)
  rw [List.length_take] at hs1
  have hX : ((bhead lv L ++ bslots (bpre (seps L)) (bcst lv L) (L.take (i + 1))) ++ (List.replicate (2 * (L.length - (i + 1))) 0 ++ (kb k ++ bcells (bpre (seps L)) (L.take i)))).length = bcst lv L + (bcells (bpre (seps L)) (L.take i)).length := by
    simp only [List.length_append, hs1, List.length_replicate, kb_len]
    unfold bcst bkst; omega
  rw [show (bhead lv L ++ bslots (bpre (seps L)) (bcst lv L) (L.take (i + 1))) ++ (List.replicate (2 * (L.length - (i + 1))) 0 ++ (kb k ++ (bcells (bpre (seps L)) (L.take i) ++ List.replicate (4092 - (bcst lv L + (bcells (bpre (seps L)) (L.take i)).length)) 0))) =
    ((bhead lv L ++ bslots (bpre (seps L)) (bcst lv L) (L.take (i + 1))) ++ (List.replicate (2 * (L.length - (i + 1))) 0 ++ (kb k ++ bcells (bpre (seps L)) (L.take i)))) ++ (List.replicate (bcb (bpre (seps L)) (L.getD i sk0)).length 0 ++ List.replicate (4092 - (bcst lv L + (bcells (bpre (seps L)) (L.take (i + 1))).length)) 0) by
      rw [List.replicate_append_replicate, bcells_snoc _ _ _ hi, List.length_append]
      simp only [List.append_assoc]
      rw [show (bcb (bpre (seps L)) (L.getD i sk0)).length + (4092 - (bcst lv L + ((bcells (bpre (seps L)) (L.take i)).length + (bcb (bpre (seps L)) (L.getD i sk0)).length))) = 4092 - (bcst lv L + (bcells (bpre (seps L)) (L.take i)).length) by omega]]
  rw [splice_mid hX (by simp)]
  unfold blaid
  rw [bcells_snoc _ _ _ hi]
  simp only [List.append_assoc]

theorem blaid_len (lv : Int) (k : Kd) (L : List Sk) (i : Nat) (hi : i ≤ L.length) (h : bcst lv L + (bcells (bpre (seps L)) (L.take i)).length ≤ 4092) : (blaid lv k L i).length = 4092 := by
  unfold blaid
  simp only [List.length_append, bslots_len, List.length_replicate, List.length_take, kb_len]
  have : bcst lv L = (bhead lv L).length + 2 * L.length + 8 := rfl
  omega
theorem bcst_le (lv : Int) (k : Kd) {L : List Sk} (h2 : bsize (seps L) ≤ 4092) (i : Nat) : bcst lv L + (bcells (bpre (seps L)) (L.take i)).length ≤ 4092 := by
  have h1 := bused_len lv k L
  have h3 := bcells_mono (bpre (seps L)) L i
  unfold bused at h1
  rw [List.length_append, List.length_append, List.length_append, bslots_len, kb_len] at h1
  unfold bcst bkst
  omega

theorem info_arrB : ((Try.prog.info? 75).bind (fun i => i.zero)).map (fun z => z.cells) = some ((List.replicate 4092 (Value.int .u8 0)).toArray) := by kernel_rfl
theorem arrB_parts : ∃ i z, Try.prog.info? 75 = some i ∧ i.zero = some z ∧ z.cells = ((List.replicate 4092 (0 : Int)).map (Value.int .u8)).toArray := by
  obtain ⟨z, h1, h2⟩ := Option.map_eq_some_iff.1 info_arrB
  obtain ⟨i, h3, h4⟩ := Option.bind_eq_some_iff.1 h1
  exact ⟨i, z, h3, h4, by rw [List.map_replicate]; exact h2⟩

theorem wpList_alloc_arr {w : World} {ops : Array Oper} {rest : List Oper} {o : Oper} {a : Act} {Q : Exit → Act → World → Prop} (hgd : o.guard = none) (ho : o.op = .alloc 75) (Z : List Int) (hZ : Z = List.replicate 4092 0)
    (h : ∀ w', Rt w' w.heap.size 75 Z → w.grownBy w' none → w'.heap.size = w.heap.size + 1 → wpList Try.prog ops Q rest (a.put o.dst (.pointer (some ⟨w.heap.size, 0, none⟩))) w') : wpList Try.prog ops Q (o :: rest) a w := by
  obtain ⟨i, z, h1, h2, h3⟩ := arrB_parts
  refine Go.Great.wpList_allocTo hgd o.dst rfl (.pointer (some ⟨w.heap.size, 0, none⟩)) (.cells z.cells 75) ?_ (h _ ?_ (World.grownBy_alloc w _ none) (by simp))
  · simp [execOp, ho, Instr.alloc, zeroValue, typeInfo, newVar, newRow, h1, h2]
  · rw [h3, hZ]
    exact heap_alloc_new w _
end Go.Proofs.Ytomknmboapgmbaa
