import Derived.Test.YtgldkdbkaachkaaGreatDoorK7
import Derived.Deep.RegionLaw
import Derived.Laws.Cover3
import Derived.Laws.StructEq
import Derived.KernelRfl
set_option maxRecDepth 100000
set_option maxHeartbeats 1000000
namespace Go.Proofs.YtgldkdbkaachkaaGreatDoor
open Go.RowKit
theorem Ng (ao:Option Addr)(n cap:Nat)(w:World)(h:n≠4096) :
  Calls Tryz.prog 29 #[.slice ao n cap] w fun e w'=>e=.returned (.tuple #[.slice none 0 0,.int .i64 21])/\w'=w:=by
 go_enter Tryz.func29,Tryz.ntmps29;go_wp2
 go_ret2
 exact ⟨rfl,rfl⟩
theorem QK (a b c d a' b' c' d':Int)(w:World):(Op.equalIn 10000 101 (.agg #[.int .u8 a,.int .u8 b,.int .u8 c,.int .u8 d]) (.agg #[.int .u8 a',.int .u8 b',.int .u8 c',.int .u8 d'])).run Tryz.prog w=.ok (a==a' && b==b' && c==c' && d==d') w:=by
 have u3:=Tryz.underlying5;have a3:=Tryz.isAgg5;have z3:=Tryz.sizeOf5;rw [show (10000:Nat)=9999+1 from rfl,Op.equalIn];simp only [Sem.run_bind,run_underlying Tryz.underlying101,Result.andThen_ok];simp only [Std.Legacy.Range.forIn_eq_forIn_range',Std.Legacy.Range.size,Nat.sub_zero,Nat.add_sub_cancel,Nat.div_one,List.range'_succ,List.range'_zero,List.forIn_cons,List.forIn_nil]
 go_simp
 by_cases h1:a=a' <;> by_cases h2:b=b' <;> by_cases h3:c=c' <;> by_cases h4:d=d' <;> simp [h1,h2,h3,h4]
theorem Bw (a b c d:Int)(s:Nat)(w:World):(binOp .neq 101 (.agg #[.int .u8 a,.int .u8 b,.int .u8 c,.int .u8 d]) (tE s)).run Tryz.prog w=.ok (.bool (!decide ([a,b,c,d]=fe s))) w:=by
 unfold tE;rw [run_neq_struct,QK];simp only [Result.andThen_ok]
 congr 3
 rw [Bool.eq_iff_iff];simp [fe,and_assoc]
theorem ua (x y:Operand)(a b c d:Int)(s:Nat)(w:World):(eqGuard .neq 101 x y (.agg #[.int .u8 a,.int .u8 b,.int .u8 c,.int .u8 d]) (tE s)).run Tryz.prog w=.ok () w:=by
 unfold tE;exact run_eqGuard_agg w .neq 101 x y _ _ (by kernel_rfl)
theorem wu {Z X:List Value}{n:Nat}(hZ:Z.length=n)(hX:X.length=n):splice Z 0 X=X:=by
 unfold splice;rw [List.take_zero,List.nil_append,Nat.zero_add,List.drop_eq_nil_of_le (by omega),List.append_nil]
theorem Un {zs:List Int}(hl:zs.length=4096):zs.drop 4092=[zs.getD 4092 0,zs.getD 4093 0,zs.getD 4094 0,zs.getD 4095 0]:=by
 refine List.ext_getElem (by simp [hl]) fun i h1 h2=>?_
 simp at h2;have:i=0∨i=1∨i=2∨i=3:=by omega
 rcases this with rfl | rfl | rfl | rfl <;> simp [List.getD,hl]
theorem QL (ao:Option Addr)(cap:Nat)(zs:List Int)(w:World)(hb:ai w ao 4096 cap zs)(bt:Bt zs)(ht:pA w)(hcap:4096<=cap)(hx:zs.drop 4092≠fe (upd 0 (zs.take 4092))) :
  Calls Tryz.prog 29 #[.slice ao 4096 cap] w fun e w'=>e=.returned (.tuple #[.slice none 0 0,.int .i64 22])/\w.grownBy w' none:=by
 obtain ⟨i0,hi,hz0,hz1,hz2⟩:=info_parts bF;have HT:=hJ ht;obtain ⟨b,off,rfl,ru,hcell⟩:=hb.at (by omega);have c0:=hcell 4092 (by omega);have c1:=hcell 4093 (by omega);have c2:=hcell 4094 (by omega);have c3:=hcell 4095 (by omega);have xf:Hid (ai w (some ⟨b,off,none⟩) 4092 cap (zs.take 4092)):=hb.take 4092 cap (by omega) (by intro e;cases e);rw [Un hb.len] at hx;have ZO:Bt (zs.take 4092):=bt.take 4092;have DA:=hJ ZO;generalize zs.getD 4092 0=u0 at *;generalize zs.getD 4093 0=u1 at *;generalize zs.getD 4094 0=u2 at *;generalize zs.getD 4095 0=u3 at *;clear hb ht hcell bt ZO;generalize zs.take 4092=ys at *;have a0:w.cell? ⟨b,off+4092+1,none⟩=some (.int .u8 u1):=c1;have a1:w.cell? ⟨b,off+4092+2,none⟩=some (.int .u8 u2):=c2;have a2:w.cell? ⟨b,off+4092+3,none⟩=some (.int .u8 u3):=c3;have ad0:cap≠4092:=by omega
 have ad1:(4092:Int)<=(cap:Int):=by omega
 have VY:∀ (W:World) (p:Option Addr) (c:Nat),(Instr.arrayAt 101 (.slice p 4 c)).run Tryz.prog W=.ok (.pointer p) W:=fun W p c=>run_arrayAt (P:=Tryz.prog) (w:=W) 101 5 4 p 4 c Tryz.underlying101 (Nat.le_refl _)
 have VZ:∀ W:World,(binOp .neq 101 (.agg #[.int .u8 u0,.int .u8 u1,.int .u8 u2,.int .u8 u3]) (tE (upd 0 ys))).run Tryz.prog W=.ok (.bool true) W:=fun W=>by rw [Bw];simp [hx]
 have Wb:∀ (x y:Operand) (W:World),(eqGuard .neq 101 x y (.agg #[.int .u8 u0,.int .u8 u1,.int .u8 u2,.int .u8 u3]) (tE (upd 0 ys))).run Tryz.prog W=.ok () W:=fun x y W=>ua x y _ _ _ _ _ W
 clear hx;go_enter Tryz.func29,Tryz.ntmps29
 go_wp2_with fail
 go_region_law
  (go_simp;go_at_call 53;refine (ji _ 4092 cap ys _ (by exact xf.out.heap rfl) DA.out (by exact HT.out) (by omega)).mono ?_;rintro e w1 ⟨rfl,hg1⟩;have d0:=hg1.cell (row:=none) (by exact c0) (by simp);have d1:=hg1.cell (row:=none) (by exact a0) (by simp);have d2:=hg1.cell (row:=none) (by exact a1) (by simp);have d3:=hg1.cell (row:=none) (by exact a2) (by simp))
 all_goals
  have G1:=hJ (gQ ((Qt.refl w).drew.grown none) hg1);clear hg1 VZ Wb VY d0 d1 d2 d3 c0 c1 c2 c3 a0 a1 a2;go_wp2
  go_ret2
  exact ⟨rfl,G1.out⟩
theorem Nh (ao:Option Addr)(cap:Nat)(zs:List Int)(w:World)(hb:ai w ao 4096 cap zs)(bt:Bt zs)(ht:pA w)(hcap:4096<=cap)(hx:zs.drop 4092=fe (upd 0 (zs.take 4092))) :
  Calls Tryz.prog 29 #[.slice ao 4096 cap] w fun e w' =>
   ∃ g,e=.returned (.tuple #[.slice (some ⟨g,0,none⟩) 4092 4092,.int .i64 0])/\Rw w' g (zs.take 4092)/\w.heap.size<=g/\w.grownBy w' none:=by
 obtain ⟨i0,hi,hz0,hz1,hz2⟩:=info_parts bF;have HT:=hJ ht;obtain ⟨b,off,rfl,ru,hcell⟩:=hb.at (by omega);have c0:=hcell 4092 (by omega);have c1:=hcell 4093 (by omega);have c2:=hcell 4094 (by omega);have c3:=hcell 4095 (by omega);have xf:Hid (ai w (some ⟨b,off,none⟩) 4092 cap (zs.take 4092)):=hb.take 4092 cap (by omega) (by intro e;cases e);rw [Un hb.len] at hx;have ZO:Bt (zs.take 4092):=bt.take 4092;have DA:=hJ ZO;generalize zs.getD 4092 0=u0 at *;generalize zs.getD 4093 0=u1 at *;generalize zs.getD 4094 0=u2 at *;generalize zs.getD 4095 0=u3 at *;clear hb ht hcell bt ZO;generalize zs.take 4092=ys at *;have a0:w.cell? ⟨b,off+4092+1,none⟩=some (.int .u8 u1):=c1;have a1:w.cell? ⟨b,off+4092+2,none⟩=some (.int .u8 u2):=c2;have a2:w.cell? ⟨b,off+4092+3,none⟩=some (.int .u8 u3):=c3;have ad0:cap≠4092:=by omega
 have ad1:(4092:Int)<=(cap:Int):=by omega
 have VY:∀ (W:World) (p:Option Addr) (c:Nat),(Instr.arrayAt 101 (.slice p 4 c)).run Tryz.prog W=.ok (.pointer p) W:=fun W p c=>run_arrayAt (P:=Tryz.prog) (w:=W) 101 5 4 p 4 c Tryz.underlying101 (Nat.le_refl _)
 have VZ:∀ W:World,(binOp .neq 101 (.agg #[.int .u8 u0,.int .u8 u1,.int .u8 u2,.int .u8 u3]) (tE (upd 0 ys))).run Tryz.prog W=.ok (.bool false) W:=fun W=>by rw [Bw];simp [hx]
 have Wb:∀ (x y:Operand) (W:World),(eqGuard .neq 101 x y (.agg #[.int .u8 u0,.int .u8 u1,.int .u8 u2,.int .u8 u3]) (tE (upd 0 ys))).run Tryz.prog W=.ok () W:=fun x y W=>ua x y _ _ _ _ _ W
 clear hx;go_enter Tryz.func29,Tryz.ntmps29
 go_wp2_with fail
 go_region_law
  (go_simp;go_at_call 53;refine (ji _ 4092 cap ys _ (by exact xf.out.heap rfl) DA.out (by exact HT.out) (by omega)).mono ?_;rintro e w1 ⟨rfl,hg1⟩;have d0:=hg1.cell (row:=none) (by exact c0) (by simp);have d1:=hg1.cell (row:=none) (by exact a0) (by simp);have d2:=hg1.cell (row:=none) (by exact a1) (by simp);have d3:=hg1.cell (row:=none) (by exact a2) (by simp))
 all_goals
  have G1:=hJ (gQ ((Qt.refl w).drew.grown none) hg1);clear hg1 VZ Wb VY d0 d1 d2 d3 c0 c1 c2 c3 a0 a1 a2;have hYl:ys.length=4092:=xf.out.len;have Ni:=hJ (xf.out.ae G1.out);obtain ⟨X,hX⟩:∃ X,X=ys.map (Value.int .u8):=⟨_,rfl⟩;obtain ⟨Z,hZ⟩:∃ Z,Z=(List.replicate 4092 (0:Int)).map (Value.int .u8):=⟨_,rfl⟩;have LD:X.length=4092:=by rw [hX,List.length_map];exact hYl
  have pR:Z.length=4092:=by rw [hZ,List.length_map,List.length_replicate]
  have XR:∀ v∈X,v.oneCell'=true:=by rw [hX];exact ints_oneCell _ _
  have HX:=hJ hX;have HZ:=hJ hZ;have hc1:Hid (∀ j v,X[j]?=some v->w1.cell? ((⟨b,off,none⟩:Addr).add j)=some v):=by show ∀ j v,_;rw [hX];exact Ni.out.cells _ rfl
  have cB:=G1.out.size;clear hX hZ xf Ni DA HT hYl
  go_wp2_with (at_make;refine wpList_make_full _ rfl _ _ 25 rfl w1.heap.size 5 i0 (.int .u8 0) 1 Tryz.underlying25 hi hz0 hz1 _ _ _ _ 4092 rfl rfl rfl rfl (by rw [hz2];omega) (by unfold maxLen;omega) (Nat.le_refl _) ?_)
  intro w2 hown2 hg2
  have R2':Hid (w2.heap[w1.heap.size]?=some (.cells Z.toArray 5 (0,0))):=by
   show _=_
   rw [made] at hown2;rw [HZ.out];exact Rw.aP hown2
  have hc2:Hid (∀ j v,X[j]?=some v->w2.cell? ((⟨b,off,none⟩:Addr).add j)=some v):=fun j v hv=>hg2.cell (hc1.out j v hv) (by simp)
  have G2:=hJ hg2;clear hown2 hg2 hc1
  go_wp2_with (refine wpList_copy_splice rfl _ _ 25 25 rfl 5 Tryz.underlying25 (by rw [hi];exact congrArg some hz1) _ _ _ _ _ _ rfl rfl w1.heap.size 0 Z 5 R2'.out X (by rw [LD];rfl) (fun _=>⟨rfl,_,rfl,hc2.out⟩) (by omega) XR w1.heap.size w1 (pS G2.out) (Nat.le_refl _) ?_)
  intro w3 HR3 hB3;clear hc2 R2' G2;go_wp2
  go_ret2
  refine ⟨w1.heap.size,rfl,?_,cB,gQ G1.out (gJ hB3)⟩;unfold Rw;rw [<- HX.out,<- wu pR LD];exact HR3.out
end Go.Proofs.YtgldkdbkaachkaaGreatDoor
