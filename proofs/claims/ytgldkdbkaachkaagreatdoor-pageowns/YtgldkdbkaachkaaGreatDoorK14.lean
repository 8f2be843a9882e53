import Derived.Test.YtgldkdbkaachkaaGreatDoorK11
import Derived.Deep.WholeRow
set_option maxRecDepth 100000
set_option maxHeartbeats 2000000
namespace Go.Proofs.YtgldkdbkaachkaaGreatDoor
open Go.RowKit
variable {a:Act}{ops:Array Oper}{Q:Exit->Act->World->Prop}{x:Int}{bs xs zs:List Int}{rest:List Oper}{g i:Nat}{o:Oper}{w w':World}
def mP (zs:List Int):Value:=.agg (zs.map (Value.int .u8)).toArray
theorem pY:(Tryz.prog.info? 210).map (fun i=>i.size)=some 4092:=by kernel_rfl
theorem df (hgd:o.guard=none)(ho:o.op=.alloc 210)(Z:List Int)(hZ:Z=List.replicate 4092 0)
  (h:∀ w',Rt w' w.heap.size 210 Z->w.grownBy w' none->w'.heap.size=w.heap.size+1->wpList Tryz.prog ops Q rest (a.put o.dst (.pointer (some ⟨w.heap.size,0,none⟩))) w'):wpList Tryz.prog ops Q (o::rest) a w:=by
 obtain ⟨i,z,h1,h2,h3⟩:=tZ;refine wpList_plain hgd fun K hK=>?_
 unfold Oper.wp
 have hr:(execOp a.eval o).run Tryz.prog w=.ok (.value (.pointer (some ⟨w.heap.size,0,none⟩))) (w.alloc (.cells z.cells 210)):=by
  simp [execOp,ho,Instr.alloc,zeroValue,typeInfo,newVar,newRow,h1,h2]
 rw [hr,Oper.upon_value];refine hK _ _ (h _ ?_ (World.grownBy_alloc w _ none) (by simp));rw [h3,hZ];exact heap_alloc_new w _
theorem rR (hgd:o.guard=none)(p:Operand)(ho:o.op=.load 210 p)(g:Nat)(zs:List Int)(hp:a.eval p=.pointer (some ⟨g,0,none⟩))(hr:Rt w g 210 zs)(hl:zs.length=4092)
  (h:wpList Tryz.prog ops Q rest (a.put o.dst (mP zs)) w):wpList Tryz.prog ops Q (o::rest) a w:=by
 refine wpList_plain hgd fun K hK=>?_
 unfold Oper.wp;have hv:=run_loadVar_row (P:=Tryz.prog) w g 210 210 _ (0,0) _ hr Tryz.underlying210 rfl (by rw [pY];simp [hl])
 have hr:(execOp a.eval o).run Tryz.prog w=.ok (.value (mP zs)) w:=by
  simp [execOp,ho,hp,Instr.loadAt,Instr.sureAddr,hv,mP,Result.andThen]
 rw [hr,Oper.upon_value];exact hK _ _ h
theorem fK (hgd:o.guard=none)(p x:Operand)(ho:o.op=.store 210 p x)(g:Nat)(cs zs:List Int)(hp:a.eval p=.pointer (some ⟨g,0,none⟩))(hx:a.eval x=mP zs)(hr:Rt w g 210 cs)(hl:cs.length=4092)(hz:zs.length=4092)
  (h:∀ w',Rt w' g 210 zs->w.grownBy w' (some g)->w'.heap.size=w.heap.size->wpList Tryz.prog ops Q rest (a.put o.dst undef) w'):wpList Tryz.prog ops Q (o::rest) a w:=by
 refine wpList_plain hgd fun K hK=>?_
 unfold Oper.wp;have hv:=run_storeVar_row (P:=Tryz.prog) w g 210 210 _ (zs.map (Value.int .u8)).toArray hr (by rw [pY];simp [hz]) (by simp [hl,hz]) (by simp [Value.oneCell'])
 have hr2:(execOp a.eval o).run Tryz.prog w=.ok .skip (w.setRow g (zs.map (Value.int .u8)).toArray):=by
  simp [execOp,ho,hp,hx,Instr.storeAt,Instr.sureAddr,hv,mP,Result.andThen]
 rw [hr2,Oper.upon_skip];have hro:Rp w (w.setRow g (zs.map (Value.int .u8)).toArray) g 210 (zs.map (Value.int .u8)):=⟨setRow_heap w g _ _ _ _ hr,fun k hk=>setRow_other w g k _ hk,by simp [World.setRow],rfl,rfl,rfl⟩;exact hK _ _ (h _ hro.row hro.grown hro.size)
theorem qT (x:Int)(w:World):Calls Tryz.prog 213 #[.int .i64 x] w fun en w'=>en=.returned (.bool (!ik x))/\w'=w:=by
 by_cases h1:x<2
 ·have e:Hid (ik x=false):=by show _=_;simp [ik];omega
  go_enter Tryz.func213,Tryz.ntmps213;go_wp2;go_ret;exact ⟨by rw [e.out];rfl,rfl⟩
 ·by_cases h2:524287<=x
  ·have e:Hid (ik x=false):=by show _=_;simp [ik];omega
   go_enter Tryz.func213,Tryz.ntmps213;go_wp2;go_ret;exact ⟨by rw [e.out];rfl,rfl⟩
  ·have e:Hid (ik x=true):=by show _=_;simp [ik];omega
   go_enter Tryz.func213,Tryz.ntmps213;go_wp2;go_ret;exact ⟨by rw [e.out];rfl,rfl⟩
theorem bK (x:Int)(w:World):Calls Tryz.prog 205 #[.int .i64 x] w fun en w'=>en=.returned (.bool (!sA x))/\w'=w:=by
 by_cases h1:x=0
 ·have e:Hid (sA x=true):=by show _=_;simp [sA,h1]
  have h2:(x==0)=true:=by simp [h1]
  have h3:¬ x≠0:=by simp [h1]
  go_enter Tryz.func205,Tryz.ntmps205;go_wp2;go_ret;exact ⟨by rw [e.out];rfl,rfl⟩
 ·have e:Hid (sA x=ik x):=by show _=_;simp [sA,h1]
  have h2:(x != 0)=true:=by simp [h1]
  have h3:(x==0)=false:=by simp [h1]
  go_enter Tryz.func205,Tryz.ntmps205
  go_wp2_with fail
  refine (qT x _).mono ?_;rintro en w1 ⟨rfl,rfl⟩;go_wp2;go_ret;exact ⟨by rw [e.out];rfl,rfl⟩
theorem bN (x:Int)(w:World):Calls Tryz.prog 117 #[.int .i64 x] w fun en w'=>en=.returned (.bool (sA x))/\w'=w:=by
 by_cases h1:x=0
 ·have e:Hid (sA x=true):=by show _=_;simp [sA,h1]
  have h2:(x==0)=true:=by simp [h1]
  go_enter Tryz.func117,Tryz.ntmps117;go_wp2;go_ret;exact ⟨by rw [e.out];rfl,rfl⟩
 ·have h4:(x==0)=false:=by simp [h1]
  by_cases h2:2<=x
  ·by_cases h3:x<=524286
   ·have e:Hid (sA x=true):=by show _=_;simp [sA,ik,h2,h3]
    go_enter Tryz.func117,Tryz.ntmps117;go_wp2;go_ret;exact ⟨by rw [e.out];rfl,rfl⟩
   ·have e:Hid (sA x=false):=by show _=_;simp [sA,ik,h1,h2,h3]
    go_enter Tryz.func117,Tryz.ntmps117;go_wp2;go_ret;exact ⟨by rw [e.out];rfl,rfl⟩
  ·have e:Hid (sA x=false):=by show _=_;simp [sA,ik,h1,h2]
   go_enter Tryz.func117,Tryz.ntmps117;go_wp2;go_ret;exact ⟨by rw [e.out];rfl,rfl⟩
theorem cC (x:Int)(n full:Nat)(w:World):Calls Tryz.prog 206 #[.int .i64 x,.int .i64 n,.int .i64 full] w fun en w'=>en=.returned (.bool (cnt x n full))/\w'=w:=by
 by_cases h1:full<n
 ·have e:Hid (cnt x n full=true):=by show _=_;simp [cnt,h1]
  have h2:(full:Int)<(n:Int):=by omega
  go_enter Tryz.func206,Tryz.ntmps206;go_wp2;go_ret;exact ⟨by rw [e.out];rfl,rfl⟩
 ·have h2:¬ (full:Int)<(n:Int):=by omega
  by_cases h3:x=0
  ·subst h3
   have e:Hid (cnt 0 n full=false):=by show _=_;simp [cnt,h1]
   go_enter Tryz.func206,Tryz.ntmps206;go_wp2;go_ret;exact ⟨by rw [e.out];rfl,rfl⟩
  ·have h6:(x != 0)=true:=by simp [h3]
   have h7:(x==0)=false:=by simp [h3]
   by_cases h4:n<full
   ·have e:Hid (cnt x n full=true):=by show _=_;simp [cnt,h3,h4]
    have h5:(n:Int)<(full:Int):=by omega
    go_enter Tryz.func206,Tryz.ntmps206;go_wp2;go_ret;exact ⟨by rw [e.out];rfl,rfl⟩
   ·have e:Hid (cnt x n full=false):=by show _=_;simp [cnt,h1,h4]
    have h5:¬ (n:Int)<(full:Int):=by omega
    go_enter Tryz.func206,Tryz.ntmps206;go_wp2;go_ret;exact ⟨by rw [e.out];rfl,rfl⟩
theorem yI (b off m cap p k:Nat)(w:World)(h:p+k<=cap)(hc:cap<=9223372036854775807) :
  Calls Tryz.prog 208 #[.slice (some ⟨b,off,none⟩) m cap,.int .i64 p,.int .i64 k] w fun en w'=>(∃ q,en=.returned (.slice (some ⟨b,q,none⟩) k k)/\(0<k->q=off+p))/\w'=w:=by
 by_cases hk:k=0
 ·subst hk
  go_enter Tryz.func208,Tryz.ntmps208;go_wp2
  all_goals
   go_ret;exact ⟨⟨_,rfl,fun h=>by omega⟩,rfl⟩
 ·have hk2:¬ p+k=p:=by omega
  go_enter Tryz.func208,Tryz.ntmps208;go_wp2;go_ret;exact ⟨⟨off+p,by simp,fun _=>rfl⟩,rfl⟩
theorem WA (b off m cap p k:Nat)(P:Int)(w:World)(hP:P=(p:Int))(h:p+k<=cap)(hc:cap<=9223372036854775807) :
  Calls Tryz.prog 208 #[.slice (some ⟨b,off,none⟩) m cap,.int .i64 P,.int .i64 k] w fun en w'=>(∃ q,en=.returned (.slice (some ⟨b,q,none⟩) k k)/\(0<k->q=off+p))/\w'=w:=by
 subst hP;exact yI b off m cap p k w h hc
theorem wE{cs:List Int}(h:zs.length=cs.length):splice cs 0 zs=zs:=by
 unfold splice;rw [List.take_zero,List.nil_append,Nat.zero_add,h,List.drop_length,List.append_nil]
theorem ux (ao:Option Addr)(n cap:Nat)(zs:List Int)(w:World)(hb:ai w ao n cap zs)(hn:n<=140737488351232) :
  Calls Tryz.prog 209 #[.slice ao n cap] w fun en w'=>en=.returned (.slice (some ⟨w.heap.size,0,none⟩) n n)/\Rw w' w.heap.size zs/\w.grownBy w' none:=by
 obtain ⟨i0,hi,hz0,hz1,hz2⟩:=info_parts bF;have hl:=hb.len;have HB:=hJ hb;clear hb;go_enter Tryz.func209,Tryz.ntmps209
 go_wp2_with (at_make;refine wpList_make_full _ rfl _ _ 25 rfl w.heap.size 5 i0 (.int .u8 0) 1 Tryz.underlying25 hi hz0 hz1 _ _ _ _ n rfl rfl rfl rfl ?b2 ?b3 (Nat.le_refl _) ?_)
 case b2=>rw [hz2];omega
 case b3=>unfold maxLen;omega
 intro w1 hown hg1;rw [made] at hown;have R1:=hJ (show Rt w1 w.heap.size 5 (List.replicate n 0) from Rw.aP hown);have B1:=hJ (HB.out.ae hg1);have G1:=hJ hg1;clear hown hg1
 go_wp2_with (refine aS rfl _ _ rfl _ _ _ _ _ _ rfl rfl w.heap.size 0 5 (List.replicate n 0) zs R1.out B1.out (Nat.le_refl _) (fun _=>rfl) (by rw [List.length_replicate];omega) ?_)
 intro w2 hr2 hg2 hs2;rw [wE (by rw [List.length_replicate];exact hl)] at hr2;have R2:=hJ hr2;have G2:=hJ (af G1.out hg2 (Nat.le_refl _));clear hr2 hg2;go_wp2;go_ret;exact ⟨rfl,R2.out,G2.out⟩
def hz (k x n:Nat):List Int:=hd k x n++List.replicate 4085 0
theorem EE (k x n:Nat):(hz k x n).length=4092:=by unfold hz;rw [List.length_append,jX,List.length_replicate]
theorem Cc {fn:Func}{p:Tmp}(h:fn.results=#[.cell p 210])(tmps:Array Value)(w:World)(g:Nat)(zs:List Int)(hp:tmps.getD p undef=.pointer (some ⟨g,0,none⟩))(hr:Rt w g 210 zs)(hl:zs.length=4092) :
  (results fn tmps).run Tryz.prog w=.ok (mP zs) w :=
 results_cell_row h tmps w g 210 _ (0,0) _ hp hr Tryz.underlying210 rfl (by rw [pY];simp [hl])
theorem WB (ao:Option Addr)(c:Nat)(zs:List Int)(x:Nat)(w:World)(hb:ai w ao 1 c zs)(hx:x<4294967296) :
  Calls Tryz.prog 215 #[.slice ao 1 c,.int .u32 x] w fun e w'=>e=.returned (.slice (some ⟨w.heap.size,0,none⟩) 5 5)/\ai w' (some ⟨w.heap.size,0,none⟩) 5 5 (zs++lb 4 x)/\w.grownBy w' none:=by
 refine (xR ao 1 c zs x w hb (by omega) hx).mono ?_;rintro e w' ⟨rfl,h1,h2,h3⟩;exact ⟨rfl,ai.aP h1,h2⟩
theorem WC (ao:Option Addr)(c:Nat)(zs:List Int)(x:Nat)(w:World)(hb:ai w ao 5 c zs)(hx:x<65536) :
  Calls Tryz.prog 234 #[.slice ao 5 c,.int .u16 x] w fun e w'=>e=.returned (.slice (some ⟨w.heap.size,0,none⟩) 7 7)/\ai w' (some ⟨w.heap.size,0,none⟩) 7 7 (zs++lb 2 x)/\w.grownBy w' none:=by
 refine (Gj ao 5 c zs x w hb (by omega) hx).mono ?_;rintro e w' ⟨rfl,h1,h2,h3⟩;exact ⟨rfl,ai.aP h1,h2⟩
theorem JG {Z:List Int}(hZ:Z=List.replicate 4092 0)(k x n:Nat)(hk:k<256):splice Z 0 (lb 1 k++lb 4 x++lb 2 n)=hz k x n:=by
 have e1:lb 1 k++lb 4 x++lb 2 n=hd k x n:=by
  unfold hd;rw [List.append_assoc]
  show ((k % 256:Nat):Int)::_=_
  rw [Nat.mod_eq_of_lt hk]
  rfl
 rw [e1,hZ];unfold splice hz;rw [List.take_zero,List.nil_append,Nat.zero_add,jX,List.drop_replicate]
theorem xp (k x n:Nat)(w:World)(hk:k<256)(hx:x<4294967296)(hn:n<65536) :
  Calls Tryz.prog 207 #[.int .u8 k,.int .i64 x,.int .i64 n] w fun en w'=>en=.returned (mP (hz k x n))/\w.grownBy w' none:=by
 have hwx:IntKind.u32.wrap (x:Int)=(x:Int):=by simp [IntKind.wrap,IntKind.bits,IntKind.signed];omega
 have hwn:IntKind.u16.wrap (n:Int)=(n:Int):=by simp [IntKind.wrap,IntKind.bits,IntKind.signed];omega
 obtain ⟨Z,hZ⟩:∃ Z:List Int,Z=List.replicate 4092 0:=⟨_,rfl⟩;have pR:Z.length=4092:=by rw [hZ,List.length_replicate]
 have HZ:=hJ hZ;have HZ2:=hJ (JG hZ k x n hk);have HZ3:=hJ (EE k x n);clear hZ;go_enter Tryz.func207,Tryz.ntmps207
 go_wp2_with (refine df rfl rfl Z HZ.out ?_)
 intro w1 hr1 hg1 hs1;have R1:=hJ hr1;have G1:=hJ hg1;have akV:=hr1.lt;clear hr1 hg1 hs1
 go_wp2_with fail
 refine (jm k _ hk).mono ?_;rintro en w2 ⟨rfl,hb2,hg2,_⟩;have R2:=hJ (R1.out.ae hg2);have G2:=hJ (gQ G1.out hg2);clear hg2 R1 G1
 go_wp2_with fail
 refine (WB _ _ _ x _ hb2 hx).mono ?_;rintro en w3 ⟨rfl,hb3,hg3⟩;have R3:=hJ (R2.out.ae hg3);have G3:=hJ (gQ G2.out hg3);clear hg3 R2 G2 hb2
 go_wp2_with fail
 refine (WC _ _ _ n _ hb3 hn).mono ?_;rintro en w4 ⟨rfl,hb4,hg4⟩;have R4:=hJ (R3.out.ae hg4);have G4:=hJ (gQ G3.out hg4);clear hg4 R3 G3 hb3;have B4:=hJ hb4;clear hb4
 go_wp2_with (refine df rfl rfl Z HZ.out ?_)
 intro w5 kz aK hs5;have R5:=hJ kz;have R5':=hJ (R4.out.ae aK);have G5:=hJ (gQ G4.out aK);have B5:=hJ (B4.out.ae aK);have HS4:=hJ G4.out.size;have kP:=hJ R4.out.lt;clear kz aK hs5 R4 G4 B4
 go_wp2_with fail
 refine (yI w4.heap.size 0 4092 4092 0 7 _ (by omega) (by omega)).mono ?_;rintro en w6 ⟨⟨q,rfl,hq⟩,rfl⟩;have hq:=hq (by omega);subst hq
 go_wp2_with (refine aS rfl _ _ rfl _ _ _ _ _ _ rfl rfl w4.heap.size 0 210 Z (lb 1 k++lb 4 x++lb 2 n) R5.out B5.out (Nat.le_refl _) (fun _=>rfl) (by omega) ?_)
 intro w7 nj cG Ab;have aa8:Rt w7 w4.heap.size 210 (hz k x n):=by rw [<- HZ2.out];exact nj
 have R7:=hJ aa8;have R7':=hJ (R5'.out.kept cG (fun e=>by have:=Option.some.inj e;have:=kP.out;omega));have G7:=hJ (af G5.out cG HS4.out);clear nj aa8 cG Ab R5 R5' G5 B5
 go_wp2_with (refine rR rfl _ rfl w4.heap.size (hz k x n) rfl R7.out HZ3.out (fK rfl _ _ rfl w.heap.size Z (hz k x n) rfl rfl R7'.out pR HZ3.out ?_))
 intro w8 Wq bU Uh;have G8:=hJ (af G7.out bU (Nat.le_refl _));go_wp2;refine bodyPost_ret (Cc rfl _ _ w.heap.size (hz k x n) rfl Wq HZ3.out) rfl ?_;exact ⟨rfl,G8.out⟩
def oD (x:Int)(zs:List Int):List Int:=if eD x zs.length=0 then dB x.toNat zs else []
theorem Ce (h:eD x zs.length≠0):oD x zs=[]:=by unfold oD;rw [if_neg h]
theorem kQ (h:eD x zs.length=0):oD x zs=dB x.toNat zs:=by unfold oD;rw [if_pos h]
theorem UQ (h:Bt zs):Bt (oD x zs):=by
 unfold oD;split
 ·exact YZ h
 ·exact Bt.nil
theorem JH {x:Nat}(h:zs.length<=4085):splice (hz 3 x zs.length) 7 zs=dB x zs:=by
 unfold hz dB;have e:List.replicate 4085 (0:Int)=List.replicate zs.length 0++List.replicate (4085 - zs.length) 0:=by rw [List.replicate_append_replicate];congr 1;omega
 rw [e,bQ (jX _ _ _) (by rw [List.length_replicate])]
theorem kR (x:Int)(ao:Option Addr)(n cap:Nat)(zs:List Int)(w:World)(hb:ai w ao n cap zs)(hn:n<=9223372036854775807) :
  Calls Tryz.prog 183 #[.int .i64 x,.slice ao n cap] w fun en w'=>∃ bo m,en=.returned (.tuple #[.slice bo m m,.int .i64 (eD x n)])/\ai w' bo m m (oD x zs)/\(0<m->∃ g,bo=some ⟨g,0,none⟩/\w.heap.size<=g/\Rw w' g (oD x zs))/\w.grownBy w' none:=by
 have hl:=hb.len;have HB:=hJ hb;clear hb;cases hk:sA x with
 | false =>
  have e:Hid (eD x n=51):=by show _=_;unfold eD;rw [if_pos hk]
  have e2:Hid (oD x zs=[]):=Ce (by rw [hl,e.out];decide);clear hl;go_enter Tryz.func183,Tryz.ntmps183
  go_wp2_with fail
  refine (bK x _).mono ?_;rintro en w1 ⟨rfl,rfl⟩;rw [hk];go_wp2
  go_ret2
  rw [e.out,e2.out];exact ⟨none,0,rfl,ai.empty _,fun h=>by omega,World.grownBy.refl _ _⟩
 | true =>
  by_cases h0:n=0
  ·subst h0
   have e:Hid (eD x 0=62):=by show _=_;unfold eD;rw [if_neg (by rw [hk];decide),if_pos (by rfl)]
   have e2:Hid (oD x zs=[]):=Ce (by rw [hl,e.out];decide);clear hl;go_enter Tryz.func183,Tryz.ntmps183
   go_wp2_with fail
   refine (bK x _).mono ?_;rintro en w1 ⟨rfl,rfl⟩;rw [hk];go_wp2
   go_ret2
   rw [e.out,e2.out];exact ⟨none,0,rfl,ai.empty _,fun h=>by omega,World.grownBy.refl _ _⟩
  ·have Ae:((n:Int)==0)=false:=by simp [h0]
   cases hc:cnt x n 4085 with
   | true =>
    have e:Hid (eD x n=62):=by show _=_;unfold eD;rw [if_neg (by rw [hk];decide),if_pos (by rw [hc];simp)]
    have e2:Hid (oD x zs=[]):=Ce (by rw [hl,e.out];decide);clear hl;go_enter Tryz.func183,Tryz.ntmps183
    go_wp2_with fail
    refine (bK x _).mono ?_;rintro en w1 ⟨rfl,rfl⟩;rw [hk]
    go_wp2_with fail
    refine (cC x n 4085 _).mono ?_;rintro en w1 ⟨rfl,rfl⟩;rw [hc];go_wp2
    go_ret2
    rw [e.out,e2.out];exact ⟨none,0,rfl,ai.empty _,fun h=>by omega,World.grownBy.refl _ _⟩
   | false =>
    have e:Hid (eD x n=0):=by show _=_;unfold eD;rw [if_neg (by rw [hk];decide),if_neg (by rw [hc];simp [h0])]
    have e2:Hid (oD x zs=dB x.toNat zs):=kQ (by rw [hl,e.out]);have hm:=(nN e.out).2.2.1;obtain ⟨y,hy,jE⟩:=iq hk;subst hy;have e2:Hid (oD y zs=dB y zs):=e2;have e3:Hid ((hz 3 y n).length=4092):=EE _ _ _;have e4:Hid (splice (hz 3 y n) 7 zs=dB y zs):=by show _=_;rw [<- hl];exact JH (by omega)
    have e5:Hid ((dB y zs).length=4092):=DT (by omega);obtain ⟨Z,hZ⟩:∃ Z:List Int,Z=List.replicate 4092 0:=⟨_,rfl⟩;have pR:Z.length=4092:=by rw [hZ,List.length_replicate]
    have HZ:=hJ hZ;clear hZ hl;go_enter Tryz.func183,Tryz.ntmps183
    go_wp2_with fail
    refine (bK y _).mono ?_;rintro en w1 ⟨rfl,rfl⟩;rw [hk]
    go_wp2_with fail
    refine (cC y n 4085 _).mono ?_;rintro en w1 ⟨rfl,rfl⟩;rw [hc]
    go_wp2_with fail
    refine (xp 3 y n _ (by omega) (by omega) (by omega)).mono ?_;rintro en w2 ⟨rfl,hg2⟩;have B2:=hJ (HB.out.ae hg2);have kP:Hid (∀ ad,ao=some ad->0<n->ad.block<w2.heap.size):=fun ad h1 h2=>(HB.out.ae hg2).lt h1 h2
    have G2:=hJ hg2;clear hg2 HB
    go_wp2_with (refine df rfl rfl Z HZ.out ?_)
    intro w3 hr3 hg3 hs3;have R3:=hJ hr3;have B3:=hJ (B2.out.ae hg3);have G3:=hJ (gQ G2.out hg3);have S2:=hJ G2.out.size;clear hr3 hg3 hs3 B2 G2
    go_wp2_with (refine fK rfl _ _ rfl w2.heap.size Z (hz 3 y n) rfl rfl R3.out pR e3.out ?_)
    intro w4 hr4 hg4 tP;have R4:=hJ hr4;have B4:=hJ (B3.out.kept hg4 (fun ad h1 h2 e=>by have:=Option.some.inj e;have:=kP.out ad h1 h2;omega));have G4:=hJ (af G3.out hg4 S2.out);clear hr4 hg4 tP R3 B3 G3
    go_wp2_with fail
    refine (yI w2.heap.size 0 4092 4092 7 n _ (by omega) (by omega)).mono ?_;rintro en w5 ⟨⟨q,rfl,hq⟩,rfl⟩;have hq:=hq (by omega);subst hq
    go_wp2_with (refine aS rfl _ _ rfl _ _ _ _ _ _ rfl rfl w2.heap.size 7 210 (hz 3 y n) zs R4.out B4.out (Nat.le_refl _) (fun _=>rfl) (by rw [e3.out];omega) ?_)
    intro w6 ku bE zZ;have NV:Rt w6 w2.heap.size 210 (dB y zs):=by rw [<- e4.out];exact ku
    have B6:=hJ (NV.all 4092 4092 e5.out.symm);have G6:=hJ (af G4.out bE S2.out);clear ku NV bE zZ R4 B4 G4
    go_wp2_with fail
    refine (ux _ 4092 4092 (dB y zs) _ B6.out (by omega)).mono ?_;rintro en w7 ⟨rfl,nj,cG⟩;have R7:=hJ nj;have G7:=hJ (gQ G6.out cG);clear nj cG;go_wp2
    go_ret2
    rw [e.out,e2.out];exact ⟨some ⟨w6.heap.size,0,none⟩,4092,rfl,R7.out.all 4092 4092 e5.out.symm,fun _=>⟨_,rfl,G6.out.size,R7.out⟩,G7.out⟩
theorem ol (R G:Nat)(zs:List Int)(w:World)(h:Rd w R G zs 0 0)(bp:Bt zs)(hl:zs.length=4092) :
  Calls Tryz.prog 210 #[.pointer (some ⟨R,0,none⟩)] w fun en w'=>en=.returned (.tuple #[.int .i64 (rN zs:Nat),.int .i64 (rC zs:Nat)])/\Rd w' R G zs 7 0/\w.grownBy w' (some R):=by
 obtain ⟨x,hx⟩:∃ x,x=rN zs:=⟨_,rfl⟩;obtain ⟨n,hn⟩:∃ n,n=rC zs:=⟨_,rfl⟩;have hx2:x<4294967296:=by rw [hx];exact Zb bp
 have NW:n<65536:=by rw [hn];exact Zc bp
 have hwx:IntKind.i64.wrap (x:Int)=(x:Int):=by simp [IntKind.wrap,IntKind.bits,IntKind.signed];omega
 have hwn:IntKind.i64.wrap (n:Int)=(n:Int):=by simp [IntKind.wrap,IntKind.bits,IntKind.signed];omega
 rw [<- hx,<- hn];have HX:=hJ hx;have HN:=hJ hn;clear hx hn;go_enter Tryz.func210,Tryz.ntmps210
 go_wp2_with fail
 refine (fg R G zs 0 1 _ h (by omega)).mono ?_;rintro en w1 ⟨ao,rfl,_,_,hr1,hg1⟩;have G1:=hJ hg1;clear hg1 h
 go_wp2_with fail
 refine (ez R G zs 1 _ hr1 bp (by omega)).mono ?_;rintro en w2 ⟨rfl,hr2,hg2⟩;have hx:(le 4 (zs.drop 1):Nat)=x:=HX.out.symm;rw [hx];have G2:=hJ (gQ G1.out hg2);clear hg2 hr1 G1 hx
 go_wp2_with fail
 refine (tv R G zs 5 _ hr2 bp (by omega)).mono ?_;rintro en w3 ⟨rfl,hr3,hg3⟩;have hn:(le 2 (zs.drop 5):Nat)=n:=HN.out.symm;rw [hn];have G3:=hJ (gQ G2.out hg3);have R3:=hJ hr3;clear hg3 hr2 G2 hn hr3;go_wp2
 go_ret2
 exact ⟨rfl,R3.out,G3.out⟩
def vN (bs:List Int):Int:=if dD bs=true then (rN bs:Int) else 0
def vD (bs:List Int):List Int:=if dD bs=true then rD bs else []
def vE (bs:List Int):Int:=if dD bs=true then 0 else 60
theorem wF (h:dD bs=false):vN bs=0/\vD bs=[]/\vE bs=60:=by unfold vN vD vE;rw [h];exact ⟨rfl,rfl,rfl⟩
theorem Cf (h:dD bs=true):vN bs=(rN bs:Int)/\vD bs=rD bs/\vE bs=0:=by unfold vN vD vE;rw [h];exact ⟨rfl,rfl,rfl⟩
theorem aa9 (hl:zs.length=4092):(sB zs (7,0) ((rC zs:Nat):Int)).1=rD zs:=by
 unfold sB rD;rw [if_pos rfl]
 by_cases h:rC zs<=4085
 ·rw [if_neg (by simp only;omega),if_pos h];simp
 ·rw [if_pos (by simp only;omega),if_neg h]
theorem UR (h:Bt zs):Bt (rD zs):=by
 unfold rD;split
 ·exact (h.drop _).take _
 ·exact Bt.nil
theorem WD (hl:zs.length=4092):dD zs=true↔eD (rN zs) (rD zs).length=0/\oD (rN zs) (rD zs)=zs:=by
 constructor
 ·intro h
  obtain ⟨_,h2,h3⟩:=AR h;exact ⟨h2,by rw [kQ h2];exact h3⟩
 ·rintro ⟨h1,h2⟩
  rw [kQ h1] at h2;have h3:dB (rN zs) (rD zs)=zs:=h2;simp [dD,hl,h1,h3]
structure Nt (w:World)(a:Option Addr)(xs:List Int):Prop where
 row:∀ i,i<xs.length->∃ b off,a=some ⟨b,off,none⟩/\w.cell? ⟨b,off+i,none⟩=some (.int .i64 (xs.getD i 0))
theorem Nt.heap {a:Option Addr}(h:Nt w a xs)(e:w'.heap=w.heap):Nt w' a xs:=by
 refine ⟨fun i hi=>?_⟩;obtain ⟨b,off,h1,h2⟩:=h.row i hi;exact ⟨b,off,h1,(World.cell?_of_block (by rw [e])).trans h2⟩
theorem Nt.ae {a:Option Addr}(h:Nt w a xs)(hg:w.grownBy w' none):Nt w' a xs:=by
 refine ⟨fun i hi=>?_⟩;obtain ⟨b,off,h1,h2⟩:=h.row i hi;exact ⟨b,off,h1,hg.cell h2 (by simp)⟩
theorem Nt.zero (w:World)(a:Option Addr):Nt w a []:=⟨fun i hi=>by simp at hi⟩
theorem Nt.at {w:World}{b off:Nat}(h:Nt w (some ⟨b,off,none⟩) xs)(i:Nat)(hi:i<xs.length):w.cell? ⟨b,off+i,none⟩=some (.int .i64 (xs.getD i 0)):=by
 obtain ⟨b',off',h1,h2⟩:=h.row i hi;simp only [Option.some.injEq,Addr.mk.injEq] at h1;obtain ⟨rfl,rfl,_⟩:=h1;exact h2
theorem Cg (h:i<xs.length):xs.getD i 0∈xs:=by
 simp [List.getD,List.getElem?_eq_getElem h]
theorem JI (h:i<xs.length)(k:(xs.take i).all ik=true)(e:ik (xs.getD i 0)=true):(xs.take (i+1)).all ik=true:=by
 have hg:xs.getD i 0=xs[i]:=by simp [List.getD,List.getElem?_eq_getElem h]
 rw [List.take_add_one,List.getElem?_eq_getElem h,List.all_append,k];rw [hg] at e;simp [e]
theorem GU {xs:List Int}{i:Nat}(h:i<xs.length)(e:ik (xs.getD i 0)=false):xs.all ik=false:=by
 cases hh:xs.all ik with
 | false=>rfl
 | true=>have:=List.all_eq_true.1 hh _ (Cg h);rw [e] at this;cases this
theorem NY (a:Option Addr)(n cap:Nat)(xs:List Int)(w:World)(hl:Nt w a xs)(hn:xs.length=n)(hm:n<=9223372036854775807) :
  Calls Tryz.prog 259 #[.slice a n cap,.func (.func 213) #[] #[]] w fun en w'=>(∃ r:Int,en=.returned (.int .i64 r)/\(r<0↔xs.all ik=true))/\w'=w:=by
 have HL:=hJ hl;clear hl;go_enter Tryz.func259,Tryz.ntmps259;go_wp2;go_loopw [5,8] (fun _ si wr=>∃ i:Nat,i<=n/\si=.int .i64 i/\(xs.take i).all ik=true/\wr=w) (fun _ si _=>n - (intOf si).toNat)
 case atStart=>exact ⟨0,Nat.zero_le _,rfl,by simp,rfl⟩
 case round =>
  obtain ⟨i,hi,rfl,ha,rfl⟩:=hrel;have HA:=hJ ha;clear ha
  by_cases hlt:i<n
  ·obtain ⟨b,off,rfl,c0⟩:=HL.out.row i (by omega)
   have HX:Hid (ik (xs.getD i 0)=true->(xs.take (i+1)).all ik=true):=fun e=>JI (by omega) HA.out e
   have HY:Hid (ik (xs.getD i 0)=false->xs.all ik=false):=fun e=>GU (by omega) e
   have HC:=hJ (fun (W:World)=>qT (xs.getD i 0) W);generalize ik (xs.getD i 0)=bb at *;generalize xs.getD i 0=v at *
   go_wp2_with fail
   refine (HC.out _).mono ?_;rintro en w2 ⟨rfl,rfl⟩;cases bb with
   | false =>
    have lR:=hJ (HY.out rfl);clear HX HY;go_wp2;go_ret;refine ⟨⟨_,rfl,?_⟩,rfl⟩;rw [lR.out];simp
   | true =>
    have jK:=hJ (HX.out rfl);clear HX HY;go_wp2;go_roundw
    case rel=>exact ⟨i+1,by omega,by go_num,jK.out,by trivial⟩
    case measure=>simp [intOf];omega
  ·have hin:i=n:=by omega
   subst hin;go_wp2;go_ret;refine ⟨⟨-1,rfl,?_⟩,rfl⟩;have:=HA.out;rw [<- hn,List.take_length] at this;rw [this];simp
theorem kS (a:Option Addr)(n cap:Nat)(xs:List Int)(w:World)(hl:Nt w a xs)(hn:xs.length=n)(hm:n<=9223372036854775807) :
  Calls Tryz.prog 212 #[.slice a n cap,.func (.func 213) #[] #[]] w fun en w'=>en=.returned (.bool (!(xs.all ik)))/\w'=w:=by
 go_enter Tryz.func212,Tryz.ntmps212
 go_wp2_with fail
 refine (NY a n cap xs _ hl hn hm).mono ?_;rintro en w1 ⟨⟨r,rfl,hr⟩,rfl⟩;have HR:=hJ hr;clear hr hl
 by_cases h0:r<0
 ·go_wp2
  go_ret;exact ⟨by rw [HR.out.1 h0];simp [h0],rfl⟩
 ·have this:Hid (xs.all ik=false):=by
   show _=_
   cases hb:xs.all ik with
   | false=>rfl
   | true=>exact absurd (HR.out.2 hb) h0
  go_wp2;go_ret;exact ⟨by rw [this.out];simp,rfl⟩
theorem Ch (h:∀ j,j+1<xs.length->xs.getD j 0<xs.getD (j+1) 0):Gv xs=true:=by
 unfold Gv;rw [List.all_eq_true];intro i hi;have:=List.mem_range.1 hi;exact decide_eq_true (h i (by omega))
theorem xq {j:Nat}(hj:j+1<xs.length)(h:¬ xs.getD j 0<xs.getD (j+1) 0):Gv xs=false:=by
 cases hh:Gv xs with
 | false=>rfl
 | true =>
  unfold Gv at hh;have:=List.all_eq_true.1 hh j (List.mem_range.2 (by omega));exact absurd (of_decide_eq_true this) h
theorem qU (a:Option Addr)(n cap:Nat)(xs:List Int)(w:World)(hl:Nt w a xs)(hn:xs.length=n)(hm:n<=9223372036854775806) :
  Calls Tryz.prog 214 #[.slice a n cap] w fun en w'=>en=.returned (.bool (Gv xs))/\Qt w w':=by
 have HL:=hJ hl;clear hl;go_enter Tryz.func214,Tryz.ntmps214;go_wp2;go_loopw [3] (fun si wr=>∃ i:Nat,si=.int .i64 ((i:Int)+1)/\i<=n/\(∀ j,j+1<i+1->j+1<n->xs.getD j 0<xs.getD (j+1) 0)/\Qt w wr) (fun si _=>n+1 - (intOf si).toNat)
 case atStart=>exact ⟨0,rfl,Nat.zero_le _,fun j hj=>by omega,Qt.refl _⟩
 case round =>
  obtain ⟨i,rfl,hi,ha,hq⟩:=hrel;have HA:=hJ ha;have HQ:=hJ hq;clear ha hq
  by_cases hlt:i+1<n
  ·obtain ⟨b,off,rfl,q0⟩:=HL.out.row i (by omega)
   have q1:=HL.out.at (i+1) (by omega);have c0:=(HQ.out.cell _).trans q0;have c1:=(HQ.out.cell _).trans q1;have g1:(i:Int)<(n:Int):=by omega
   have g0:(0:Int)<=(i:Int):=by omega
   have g2:(i:Int)+1<(n:Int):=by omega
   have g3:(0:Int)<=(i:Int)+1:=by omega
   have HX:Hid (xs.getD i 0<xs.getD (i+1) 0->∀ j,j+1<i+1+1->j+1<n->xs.getD j 0<xs.getD (j+1) 0):=by
    intro h j hj rG
    by_cases e:j=i
    ·subst e;exact h
    ·exact HA.out j (by omega) rG
   have HY:Hid (¬ xs.getD i 0<xs.getD (i+1) 0->Gv xs=false):=fun h=>xq (by omega) h
   clear q0 q1;generalize xs.getD i 0=u at *;generalize xs.getD (i+1) 0=v at *
   by_cases h:u<v
   ·have jK:=hJ (HX.out h)
    have h2:¬ v<=u:=by omega
    clear HX HY;go_wp2
    go_quiet (fail)
    go_wp2;go_roundw
    case rel=>exact ⟨i+1,by go_num,by omega,jK.out,HQ.out.trans (Qt.drewN _ _)⟩
    case measure=>simp [intOf];omega
   ·have lR:=hJ (HY.out h)
    have h2:v<=u:=by omega
    clear HX HY;go_wp2
    go_quiet (fail)
    go_wp2;go_ret;exact ⟨by rw [lR.out];rfl,HQ.out.trans (Qt.drewN _ _)⟩
  ·have g2:¬ (i:Int)+1<(n:Int):=by omega
   have HT:Hid (Gv xs=true):=Ch (fun j hj=>HA.out j (by omega) (by omega));go_wp2;go_ret;exact ⟨by rw [HT.out];rfl,HQ.out⟩
def oL (x:Int)(xs:List Int):List Int:=if eL x xs=0 then lB x.toNat xs else []
theorem xu (h:eL x xs≠0):oL x xs=[]:=by unfold oL;rw [if_neg h]
theorem ju (h:eL x xs=0):oL x xs=lB x.toNat xs:=by unfold oL;rw [if_pos h]
theorem UT (x:Int)(xs:List Int):Bt (oL x xs):=by
 unfold oL;split
 ·exact Za _ _
 ·exact Bt.nil
def lP (x:Nat)(xs:List Int)(i:Nat):List Int:=hd 4 x xs.length++(fl (xs.take i)++List.replicate (4085 - 4*i) 0)
theorem Rq (x:Nat)(xs:List Int):lP x xs 0=hz 4 x xs.length:=by unfold lP hz;rw [List.take_zero,xW,List.nil_append]
theorem Ru (x:Nat)(xs:List Int):lP x xs xs.length=lB x xs:=by unfold lP lB;rw [List.take_length]
theorem WE {x:Nat}(h:i<=xs.length)(h2:xs.length<=1021):(lP x xs i).length=4092:=by
 unfold lP;rw [List.length_append,List.length_append,jX,tL,List.length_take,List.length_replicate];omega
theorem UU {xs:List Int}{i:Nat}(hi:i<xs.length):xs.take (i+1)=xs.take i++[xs.getD i 0]:=by
 rw [List.take_add_one,List.getElem?_eq_getElem hi];simp [List.getD,List.getElem?_eq_getElem hi]
theorem Rv {x:Nat}(hi:i<xs.length)(h2:xs.length<=1021):splice (lP x xs i) (7+4*i) (lb 4 (xs.getD i 0).toNat)=lP x xs (i+1):=by
 unfold lP;have e:List.replicate (4085 - 4*i) (0:Int)=List.replicate 4 0++List.replicate (4085 - 4*(i+1)) 0:=by rw [List.replicate_append_replicate];congr 1;omega
 have hl:(hd 4 x xs.length++fl (xs.take i)).length=7+4*i:=by rw [List.length_append,jX,tL,List.length_take];omega
 rw [e,<- List.append_assoc (hd 4 x xs.length),bQ hl (by rw [List.length_replicate,aL]),UU hi,DO,jk,xW,List.append_nil,List.append_assoc,List.append_assoc]
theorem kT (x:Int)(ao:Option Addr)(n cap:Nat)(xs:List Int)(w:World)(hb:Nt w ao xs)(hl:xs.length=n)(hn:n<=9223372036854775806) :
  Calls Tryz.prog 185 #[.int .i64 x,.slice ao n cap] w fun en w'=>∃ bo m,en=.returned (.tuple #[.slice bo m m,.int .i64 (eL x xs)])/\ai w' bo m m (oL x xs)/\(0<m->∃ g,bo=some ⟨g,0,none⟩/\w.heap.size<=g/\Rw w' g (oL x xs))/\w.grownBy w' none:=by
 have HB:=hJ hb;clear hb;cases hk:sA x with
 | false =>
  have e:Hid (eL x xs=51):=by show _=_;unfold eL;rw [if_pos hk]
  have e2:Hid (oL x xs=[]):=xu (by rw [e.out];decide);go_enter Tryz.func185,Tryz.ntmps185
  go_wp2_with fail
  refine (bK x _).mono ?_;rintro en w ⟨rfl,rfl⟩;rw [hk];go_wp2
  go_ret2
  rw [e.out,e2.out];exact ⟨none,0,rfl,ai.empty _,fun h=>by omega,World.grownBy.refl _ _⟩
 | true =>
  have pB:Hid (vX x xs=(cnt x n 1021 || (!(xs.all ik) || !(Gv xs)))):=by show _=_;rw [<- hl];rfl
  have EB:Hid (vX x xs=true->eL x xs=63):=fun h=>by unfold eL;rw [if_neg (by rw [hk];decide),if_pos h]
  cases hc:cnt x n 1021 with
  | true =>
   have e:Hid (eL x xs=63):=EB.out (by rw [pB.out,hc];rfl);have e2:Hid (oL x xs=[]):=xu (by rw [e.out];decide);go_enter Tryz.func185,Tryz.ntmps185
   go_wp2_with fail
   refine (bK x _).mono ?_;rintro en w ⟨rfl,rfl⟩;rw [hk]
   go_wp2_with fail
   refine (cC x n 1021 _).mono ?_;rintro en w ⟨rfl,rfl⟩;rw [hc];go_wp2
   go_ret2
   rw [e.out,e2.out];exact ⟨none,0,rfl,ai.empty _,fun h=>by omega,World.grownBy.refl _ _⟩
  | false =>
   cases ha:xs.all ik with
   | false =>
    have e:Hid (eL x xs=63):=EB.out (by rw [pB.out,hc,ha];rfl);have e2:Hid (oL x xs=[]):=xu (by rw [e.out];decide);go_enter Tryz.func185,Tryz.ntmps185
    go_wp2_with fail
    refine (bK x _).mono ?_;rintro en w ⟨rfl,rfl⟩;rw [hk]
    go_wp2_with fail
    refine (cC x n 1021 _).mono ?_;rintro en w ⟨rfl,rfl⟩;rw [hc]
    go_wp2_with fail
    refine (kS ao n cap xs _ HB.out hl (by omega)).mono ?_;rintro en w ⟨rfl,rfl⟩;rw [ha];go_wp2
    go_ret2
    rw [e.out,e2.out];exact ⟨none,0,rfl,ai.empty _,fun h=>by omega,World.grownBy.refl _ _⟩
   | true =>
    cases hr:Gv xs with
    | false =>
     have e:Hid (eL x xs=63):=EB.out (by rw [pB.out,hc,ha,hr];rfl);have e2:Hid (oL x xs=[]):=xu (by rw [e.out];decide);go_enter Tryz.func185,Tryz.ntmps185
     go_wp2_with fail
     refine (bK x _).mono ?_;rintro en w ⟨rfl,rfl⟩;rw [hk]
     go_wp2_with fail
     refine (cC x n 1021 _).mono ?_;rintro en w ⟨rfl,rfl⟩;rw [hc]
     go_wp2_with fail
     refine (kS ao n cap xs _ HB.out hl (by omega)).mono ?_;rintro en w ⟨rfl,rfl⟩;rw [ha]
     go_wp2_with fail
     refine (qU ao n cap xs _ HB.out hl hn).mono ?_;rintro en w1 ⟨rfl,hq⟩;rw [hr];go_wp2
     go_ret2
     rw [e.out,e2.out];exact ⟨none,0,rfl,ai.empty _,fun h=>by omega,hq.grown none⟩
    | true =>
     have e:Hid (eL x xs=0):=by show _=_;unfold eL;rw [if_neg (by rw [hk];decide),if_neg (by rw [pB.out,hc,ha,hr];decide)]
     have e2:Hid (oL x xs=lB x.toNat xs):=ju e.out;have hm:n<=1021:=by rw [<- hl];exact (sF e.out).2.1
     obtain ⟨y,hy,jE⟩:=iq hk;subst hy;have e2:Hid (oL y xs=lB y xs):=e2;have e3:Hid ((hz 4 y n).length=4092):=EE _ _ _;have e4:Hid (lP y xs 0=hz 4 y n):=by show _=_;rw [<- hl];exact Rq _ _
     have e5:Hid ((lB y xs).length=4092):=DU (by omega);have e6:Hid (lP y xs n=lB y xs):=by show _=_;rw [<- hl];exact Ru _ _
     have e7:Hid (∀ i,i<=n->(lP y xs i).length=4092):=fun i hi=>WE (by omega) (by omega)
     have e8:Hid (∀ i,i<n->splice (lP y xs i) (7+4*i) (lb 4 (xs.getD i 0).toNat)=lP y xs (i+1)):=fun i hi=>Rv (by omega) (by omega)
     have e9:Hid (∀ i,i<n->∃ v:Nat,xs.getD i 0=(v:Int)/\v<=524286):=fun i hi=>by
      have:=sD.1 (List.all_eq_true.1 ha _ (Cg (show i<xs.length by omega)));exact ⟨(xs.getD i 0).toNat,by omega,by omega⟩
     obtain ⟨Z,hZ⟩:∃ Z:List Int,Z=List.replicate 4092 0:=⟨_,rfl⟩;have pR:Z.length=4092:=by rw [hZ,List.length_replicate]
     have HZ:=hJ hZ;clear hZ pB EB;go_enter Tryz.func185,Tryz.ntmps185
     go_wp2_with fail
     refine (bK y _).mono ?_;rintro en w ⟨rfl,rfl⟩;rw [hk]
     go_wp2_with fail
     refine (cC y n 1021 _).mono ?_;rintro en w ⟨rfl,rfl⟩;rw [hc]
     go_wp2_with fail
     refine (kS ao n cap xs _ HB.out hl (by omega)).mono ?_;rintro en w ⟨rfl,rfl⟩;rw [ha]
     go_wp2_with fail
     refine (qU ao n cap xs _ HB.out hl hn).mono ?_;rintro en w1 ⟨rfl,hq⟩;rw [hr];have G1:=hJ (hq.grown none);clear hq
     go_wp2_with fail
     refine (xp 4 y n _ (by omega) (by omega) (by omega)).mono ?_;rintro en w2 ⟨rfl,hg2⟩;have G2:=hJ (gQ G1.out hg2);clear hg2 G1
     go_wp2_with (refine df rfl rfl Z HZ.out ?_)
     intro w3 hr3 hg3 hs3;have R3:=hJ hr3;have G3:=hJ (gQ G2.out hg3);have S2:=hJ G2.out.size;clear hr3 hg3 hs3 G2
     go_wp2_with (refine fK rfl _ _ rfl w2.heap.size Z (hz 4 y n) rfl rfl R3.out pR e3.out ?_)
     intro w4 hr4 hg4 tP;have aba:Rt w4 w2.heap.size 210 (lP y xs 0):=by rw [e4.out];exact hr4
     have R4:=hJ aba;have G4:=hJ (af G3.out hg4 S2.out);clear hr4 aba hg4 tP R3 G3;go_wp2;go_loopw [7,8,32] (fun _ _ si wr=>∃ i:Nat,i<=n/\si=.int .i64 i/\Rt wr w2.heap.size 210 (lP y xs i)/\w.grownBy wr none) (fun _ _ si _=>n - (intOf si).toNat)
     case atStart=>exact ⟨0,Nat.zero_le _,rfl,R4.out,G4.out⟩
     case round =>
      obtain ⟨i,hi,rfl,Ci,hgi⟩:=hrel;have RI:=hJ Ci;have GI:=hJ hgi;clear Ci hgi
      by_cases hlt:i<n
      ·obtain ⟨b,off,rfl,c0⟩:=(HB.out.ae GI.out).row i (by omega)
       obtain ⟨v,hv,hv2⟩:=e9.out i hlt;have HN:=hJ (e8.out i hlt);have XX:=hJ (e7.out i hi);rw [hv] at HN c0;rw [Int.toNat_natCast] at HN;clear hv;have VO:IntKind.u32.wrap (v:Int)=(v:Int):=by simp [IntKind.wrap,IntKind.bits,IntKind.signed];omega
       go_wp2_with fail
       refine (WA w2.heap.size 0 4092 4092 (7+4*i) 4 _ _ (by omega) (by omega) (by omega)).mono ?_;rintro en wr ⟨⟨q,rfl,hq⟩,rfl⟩;have hq:=hq (by omega);rw [Nat.zero_add] at hq;rw [hq];clear hq
       go_wp2_with fail
       refine (fQ v _ (by omega)).mono ?_;rintro en w5 ⟨rfl,kr,aK,_⟩;have R5:=hJ (RI.out.ae aK);have B5:=hJ kr;have G5:=hJ (gQ GI.out aK);clear kr aK RI GI
       go_wp2_with (refine aS rfl _ _ rfl _ _ _ _ _ _ rfl rfl w2.heap.size (7+4*i) 210 (lP y xs i) (lb 4 v) R5.out B5.out (Nat.le_refl _) (fun _=>rfl) (by rw [XX.out];omega) ?_)
       intro w6 ku bE zZ;have NV:Rt w6 w2.heap.size 210 (lP y xs (i+1)):=by rw [<- HN.out];exact ku
       have R6:=hJ NV;have G6:=hJ (af G5.out bE S2.out);clear ku NV bE zZ R5 B5 G5;go_wp2;go_roundw
       case rel=>exact ⟨i+1,by omega,by go_num,R6.out,G6.out⟩
       case measure=>simp [intOf];omega
      ·have hin:i=n:=by omega
       subst hin;have Ci:Rt wr w2.heap.size 210 (lB y xs):=by rw [<- e6.out];exact RI.out
       have B6:=hJ (Ci.all 4092 4092 e5.out.symm);clear Ci
       go_wp2_with fail
       refine (ux _ 4092 4092 (lB y xs) _ B6.out (by omega)).mono ?_;rintro en w7 ⟨rfl,nj,cG⟩;have R7:=hJ nj;have G7:=hJ (gQ GI.out cG);clear nj cG;go_wp2
       go_ret2
       rw [e.out,e2.out];exact ⟨some ⟨wr.heap.size,0,none⟩,4092,rfl,R7.out.all 4092 4092 e5.out.symm,fun _=>⟨_,rfl,GI.out.size,R7.out⟩,G7.out⟩
theorem pZ:(Tryz.prog.info? 3).map (fun i=>(i.zero,i.size,i.bytes))=some (some (.int .i64 0),1,8):=by kernel_rfl
def Ri (w:World)(g:Nat)(xs:List Int):Prop:=w.heap[g]?=some (.cells (xs.map (Value.int .i64)).toArray 3 (0,0))
theorem Ri.lt (h:Ri w g xs):g<w.heap.size:=(Array.getElem?_eq_some_iff.1 h).1
theorem Ri.nt (h:Ri w g xs):Nt w (some ⟨g,0,none⟩) xs:=by
 refine ⟨fun i hi=>⟨g,0,rfl,?_⟩⟩;rw [Nat.zero_add,cell_of_row w g i _ _ (0,0) h];simp [List.getD,List.getElem?_eq_getElem hi]
theorem Ri.kept {row:Option Nat}(h:Ri w g xs)(hg:w.grownBy w' row)(hne:some g≠row):Ri w' g xs:=(hg.block g h.lt hne).trans h
theorem Ri.ae (h:Ri w g xs)(hg:w.grownBy w' none):Ri w' g xs:=h.kept hg (by simp)
theorem abc (n:Nat):(madeCells #[Value.int .i64 0] n).toList=(List.replicate n (0:Int)).map (Value.int .i64):=by
 refine List.ext_getElem (by simp [madeCells]) fun i h1 h2=>?_
 simp [madeCells,Nat.mod_one]
theorem Ri.aP {base n:Nat}(h:w.ownsRow base 3 1 (.slice (some ⟨g,0,none⟩) n n) n (zs.map (Value.int .i64))):Ri w g zs:=by
 rcases h with ⟨hl,⟨h0,_⟩ | ⟨g',cap,cur,hv,_,hg,_,_,hs,ht⟩⟩
 ·cases h0
 ·injection hv with e1 e2 e3
  injection e1 with e1
  injection e1 with e4
  subst e4 e3
  have:cur.toList=zs.map (Value.int .i64):=by
   rw [<- ht,List.take_of_length_le (by simp [hs])]
  unfold Ri;rw [hg,<- this]
theorem Ri.frozen (h:Ri w g xs)(j:Nat):w.frozen? ⟨g,j,none⟩=false:=frozen_of_row w g j _ _ h
theorem Ri.cell (h:Ri w g xs)(i:Nat)(hi:i<xs.length):w.cell? ⟨g,i,none⟩=some (.int .i64 (xs.getD i 0)):=by
 rw [cell_of_row w g i _ _ (0,0) h];simp [List.getD,List.getElem?_eq_getElem hi]
theorem Ri.set {v:Int}(h:Ri w g xs):Ri (w.setCell ⟨g,i,none⟩ (.int .i64 v)) g (xs.set i v):=by
 unfold Ri;rw [heap_setCell_same w g i _ _ _ h];simp [List.map_set]
theorem WG {zs:List Int}{m:Nat}(hi:i<m):(rL zs i++List.replicate (m - i) 0).set i ((le 4 (zs.drop (7+4*i)):Nat):Int)=rL zs (i+1)++List.replicate (m - (i+1)) 0:=by
 have e:List.replicate (m - i) (0:Int)=0::List.replicate (m - (i+1)) 0:=by rw [show m - i=(m - (i+1))+1 by omega,List.replicate_succ]
 rw [e,List.set_append_right _ _ (by rw [jl];exact Nat.le_refl _),jl,Nat.sub_self,List.set_cons_zero,Qw,List.append_assoc]
 rfl
theorem yJ (R G m:Nat)(zs:List Int)(w:World)(h:Rd w R G zs 7 0)(bp:Bt zs)(hl:zs.length=4092)(hm:m<=1021) :
  Calls Tryz.prog 216 #[.pointer (some ⟨R,0,none⟩),.int .i64 m] w fun en w'=>∃ g,en=.returned (.slice (some ⟨g,0,none⟩) m m)/\Ri w' g (rL zs m)/\w.heap.size<=g/\w.grownBy w' (some R):=by
 obtain ⟨i0,hi,hz0,hz1,hz2⟩:=info_parts pZ;have HR:=hJ h;have akX:=h.lt.1;have HGl:=hJ h.lt.2;clear h;go_enter Tryz.func216,Tryz.ntmps216
 go_wp2_with (at_make;refine wpList_make_full _ rfl _ _ 26 rfl w.heap.size 3 i0 (.int .i64 0) 1 Tryz.underlying26 hi hz0 hz1 _ _ _ _ m rfl rfl rfl rfl ?b2 ?b3 (Nat.le_refl _) ?_)
 case b2=>rw [hz2];omega
 case b3=>unfold maxLen;omega
 intro w1 hown hg1;rw [abc] at hown;have Ci:Ri w1 w.heap.size (rL zs 0++List.replicate (m - 0) 0):=Ri.aP hown;have RI:=hJ Ci;have R1:=hJ (show Rd w1 R G zs (7+4*0) 0 from HR.out.kept hg1 (by simp) (by simp));have G1:=hJ (bL (row:=some R) hg1);clear hown hg1 HR Ci;go_wp2;go_loopw [6,11] (fun _ si wr=>∃ i:Nat,i<=m/\si=.int .i64 i/\Ri wr w.heap.size (rL zs i++List.replicate (m - i) 0)/\Rd wr R G zs (7+4*i) 0/\w.grownBy wr (some R)) (fun _ si _=>m - (intOf si).toNat)
 case atStart=>exact ⟨0,Nat.zero_le _,rfl,RI.out,R1.out,G1.out⟩
 case round =>
  obtain ⟨i,hi,rfl,Ci,hrd,hgi⟩:=hrel;have RI:=hJ Ci;have GI:=hJ hgi;clear Ci hgi R1 G1
  by_cases hlt:i<m
  ·have hv2:le 4 (zs.drop (7+4*i))<4294967296:=dQ 4 _ (bp.drop _)
   have HS:=hJ (WG (zs:=zs) hlt);have HC:=hJ (fun (W:World) (hW:Rd W R G zs (7+4*i) 0)=>ez R G zs (7+4*i) W hW bp (by omega));have Be:Hid ((rL zs i++List.replicate (m - i) 0).length=m):=by show _=_;rw [List.length_append,jl,List.length_replicate];omega
   generalize le 4 (zs.drop (7+4*i))=v at *;have VO:IntKind.i64.wrap (v:Int)=(v:Int):=by simp [IntKind.wrap,IntKind.bits,IntKind.signed];omega
   have hne:R≠w.heap.size:=by omega
   have afc:Hid (G≠w.heap.size):=by have:=HGl.out;show _≠_;omega
   go_wp2_with fail
   refine (HC.out _ hrd).mono ?_;rintro en w2 ⟨rfl,hr2,hg2⟩;have RI2:=hJ (RI.out.kept hg2 (fun e=>hne (Option.some.inj e).symm));have GI2:=hJ (gQ GI.out hg2);have RD2:=hJ hr2;clear hr2 hg2 RI GI hrd;have f2:=RI2.out.frozen i;have e2:=RI2.out.cell i (by rw [Be.out];exact hlt);go_wp2;go_roundw
   case rel =>
    refine ⟨i+1,by omega,by go_num,?_,?_,?_⟩
    ·rw [<- HS.out];exact RI2.out.set
    ·exact RD2.out.kept (ay _ _ _ _) (fun e=>hne (Option.some.inj e)) (fun e=>afc.out (Option.some.inj e))
    ·exact cN GI2.out (ay _ _ _ _) (Nat.le_refl _)
   case measure=>simp [intOf];omega
  ·have hin:i=m:=by omega
   subst hin;go_wp2;go_ret;refine ⟨_,rfl,?_,Nat.le_refl _,GI.out⟩;have:=RI.out
   rwa [Nat.sub_self,List.replicate_zero,List.append_nil] at this
def uN (bs:List Int):Int:=if dL bs=true then (rN bs:Int) else 0
def uL (bs:List Int):List Int:=if dL bs=true then rL bs (rC bs) else []
def uE (bs:List Int):Int:=if dL bs=true then 0 else 61
theorem wG (h:dL bs=false):uN bs=0/\uL bs=[]/\uE bs=61:=by unfold uN uL uE;rw [h];exact ⟨rfl,rfl,rfl⟩
theorem Cj (h:dL bs=true):uN bs=(rN bs:Int)/\uL bs=rL bs (rC bs)/\uE bs=0:=by unfold uN uL uE;rw [h];exact ⟨rfl,rfl,rfl⟩
theorem WH {zs:List Int}(hl:zs.length=4092):dL zs=true↔eL (rN zs) (rL zs (min (rC zs) 1021))=0/\oL (rN zs) (rL zs (min (rC zs) 1021))=zs:=by
 by_cases hc:rC zs<=1021
 ·rw [Nat.min_eq_left hc]
  constructor
  ·intro h
   obtain ⟨_,_,h2,h3⟩:=jY h;exact ⟨h2,by rw [ju h2];exact h3⟩
  ·rintro ⟨h1,h2⟩
   rw [ju h1] at h2;have h3:lB (rN zs) (rL zs (rC zs))=zs:=h2;simp [dL,hl,h1,h3,hc]
 ·rw [Nat.min_eq_right (by omega)]
  constructor
  ·intro h
   exact absurd (jY h).2.1 hc
  ·rintro ⟨h1,h2⟩
   rw [ju h1] at h2;exact absurd h2 (My hc)
theorem WI {zs:List Int}(h:dL zs=true):min (rC zs) 1021=rC zs:=Nat.min_eq_left (jY h).2.1
theorem uy (ao:Option Addr)(n cap:Nat)(zs:List Int)(w:World)(hb:ai w ao n cap zs)(bp:Bt zs) :
  Calls Tryz.prog 186 #[.slice ao n cap] w fun en w'=>∃ bo m,en=.returned (.tuple #[.int .i64 (uN zs),.slice bo m m,.int .i64 (uE zs)])/\Nt w' bo (uL zs)/\(uL zs).length=m/\(bo≠none->∃ g,bo=some ⟨g,0,none⟩/\w.heap.size<=g/\Ri w' g (uL zs))/\w.grownBy w' none:=by
 have hl:=hb.len;have HB:=hJ hb;clear hb
 by_cases h0:n=4092
 ·subst h0
  have EF:=hJ (WH hl);have Eg:=hJ (fun h=>WI (zs:=zs) h);obtain ⟨x,hx⟩:∃ x,x=rN zs:=⟨_,rfl⟩;obtain ⟨c,hc⟩:∃ c,c=rC zs:=⟨_,rfl⟩;obtain ⟨m,hm⟩:∃ m,m=min (rC zs) 1021:=⟨_,rfl⟩;have MH:m<=1021:=by rw [hm];exact Nat.min_le_right _ _
  rw [<- hm] at EF Eg
  have hmin:∀ (ts:Array TypeId) (ty:TypeId) (W:World),(Builtin.min_ ts ty #[.int .i64 (c:Int),.int .i64 1021]).run Tryz.prog W=.ok (.int .i64 (m:Int)) W:=by
   intro ts ty W;rw [run_min_int2,hm,<- hc]
   congr 2
   omega
  have HX:=hJ hx;have HC:=hJ hc;have HM:=hJ hm;clear hx hc hm;go_enter Tryz.func186,Tryz.ntmps186
  go_wp2_with fail
  refine (dR ao 4092 cap zs _ HB.out (by omega)).mono ?_;rintro en w1 ⟨R,rfl,hr1,hg1,hs1⟩;have B1:=hJ (HB.out.ae hg1);have kP:Hid (∀ ad,ao=some ad->0<4092->ad.block<w.heap.size):=fun ad h1 h2=>HB.out.lt h1 h2
  have G1:=hJ hg1;clear hg1
  go_wp2_with fail
  refine (ol R w.heap.size zs _ hr1 bp hl).mono ?_;rw [<- HX.out,<- HC.out];rintro en w2 ⟨rfl,hr2,hg2⟩;have B2:=hJ (B1.out.kept hg2 (fun ad h1 h2 e=>by have:=kP.out ad h1 (by omega);have:=Option.some.inj e;omega));have G2:=hJ (af G1.out hg2 (by omega));clear hg2 hr1 G1 B1
  go_wp2_with fail
  refine (mz R w.heap.size zs 7 _ hr2).mono ?_;rw [hl];rintro en w3 ⟨rfl,NZ⟩;have B3:=hJ (B2.out.ae (NZ.grown none));have G3:=hJ (gQ G2.out (NZ.grown none));have hr3:=hr2.kept (NZ.grown none) (by simp) (by simp);clear NZ hr2 G2 B2
  go_wp2_with fail
  refine (yJ R w.heap.size m zs _ hr3 bp hl MH).mono ?_;rintro en w4 ⟨g,rfl,Ci,UW,hg4⟩;have B4:=hJ (B3.out.kept hg4 (fun ad h1 h2 e=>by have:=kP.out ad h1 (by omega);have:=Option.some.inj e;omega));have G4:=hJ (af G3.out hg4 (by omega));have HGS:Hid (w.heap.size<=g):=Nat.le_trans G3.out.size UW;have RI:=hJ Ci;clear hg4 hr3 G3 B3 Ci UW
  go_wp2_with fail
  refine (kT (x:Int) _ m m (rL zs m) _ RI.out.nt (jl _ _) (by omega)).mono ?_;rintro en w5 ⟨so,k,rfl,kr,_,aK⟩;have B5:=hJ (B4.out.ae aK);have G5:=hJ (gQ G4.out aK);have RI5:=hJ (RI.out.ae aK);have S5:=hJ kr;obtain ⟨er,her⟩:∃ er,er=eL (x:Int) (rL zs m):=⟨_,rfl⟩;rw [<- her];have PK:=hJ her;clear aK G4 B4 RI kr her
  by_cases he:er=0
  ·subst he
   by_cases hq:oL (x:Int) (rL zs m)=zs
   ·have HT:Hid (dL zs=true):=EF.out.2 ⟨by rw [<- HX.out];exact PK.out.symm,by rw [<- HX.out];exact hq⟩
    have HQ:=hJ hq;clear hq
    go_wp2_with fail
    refine (lC so ao k 4092 k cap _ _ _ S5.out B5.out HQ.out).mono ?_;rintro en w6 ⟨rfl,rfl⟩;go_wp2
    go_ret3
    rw [(Cj HT.out).1,(Cj HT.out).2.1,(Cj HT.out).2.2,<- HX.out,<- Eg.out HT.out];exact ⟨_,m,rfl,RI5.out.nt,jl _ _,fun _=>⟨_,rfl,HGS.out,RI5.out⟩,G5.out⟩
   ·have HT:Hid (dL zs=false):=by
     cases hh:dL zs with
     | false=>rfl
     | true=>exact absurd (by rw [HX.out];exact (EF.out.1 hh).2) hq
    have HQ:=hJ hq;clear hq
    go_wp2_with fail
    refine (nT so ao k 4092 k cap _ _ _ S5.out B5.out (UT _ _) bp HQ.out).mono ?_;rintro en w6 ⟨rfl,rfl⟩;go_wp2
    go_ret3
    rw [(wG HT.out).1,(wG HT.out).2.1,(wG HT.out).2.2];exact ⟨none,0,rfl,Nt.zero _ _,rfl,fun h=>absurd rfl h,G5.out⟩
  ·have HT:Hid (dL zs=false):=by
    cases hh:dL zs with
    | false=>rfl
    | true=>exact absurd (by rw [PK.out,HX.out];exact (EF.out.1 hh).1) he
   have xw:(er==0)=false:=by simp [he]
   have he3:(er != 0)=true:=by simp [he]
   go_wp2
   go_ret3
   rw [(wG HT.out).1,(wG HT.out).2.1,(wG HT.out).2.2];exact ⟨none,0,rfl,Nt.zero _ _,rfl,fun h=>absurd rfl h,G5.out⟩
 ·have HT:Hid (dL zs=false):=by show _=_;simp [dL,hl,h0]
  have Ae:¬ (n:Int)=4092:=by omega
  go_enter Tryz.func186,Tryz.ntmps186;go_wp2
  go_ret3
  rw [(wG HT.out).1,(wG HT.out).2.1,(wG HT.out).2.2];exact ⟨none,0,rfl,Nt.zero _ _,rfl,fun h=>absurd rfl h,World.grownBy.refl _ _⟩
theorem Oa {L M:List Int}(hl:L.length=M.length)(h:∀ j,j<L.length->L.getD j 0=M.getD j 0):L=M:=by
 refine List.ext_getElem hl fun j h1 h2=>?_
 have:=h j h1;simpa [List.getD,List.getElem?_eq_getElem h1,List.getElem?_eq_getElem h2] using this
theorem om (a:Option Addr)(n cap:Nat)(L:List Int)(a':Option Addr)(n' cap':Nat)(M:List Int)(w:World)(hl:Nt w a L)(hn:L.length=n)(hl':Nt w a' M)(hn':M.length=n')(hm:n<=9223372036854775807) :
  Calls Tryz.prog 33 #[.slice a n cap,.slice a' n' cap'] w fun en w'=>(∃ b,en=.returned (.bool b)/\(b=true↔L=M))/\Qt w w':=by
 have HL:=hJ hl;have HM:=hJ hl';clear hl hl'
 by_cases h1:n=n'
 ·subst h1
  go_enter Tryz.func33,Tryz.ntmps33;go_wp2;go_loopw [5] (fun si wr=>∃ i:Nat,i<=n/\si=.int .i64 i/\(∀ j,j<i->L.getD j 0=M.getD j 0)/\Qt w wr) (fun si _=>n - (intOf si).toNat)
  case atStart=>exact ⟨0,Nat.zero_le _,rfl,fun j hj=>by omega,Qt.refl _⟩
  case round =>
   obtain ⟨i,hi,rfl,ha,hq⟩:=hrel;have HA:=hJ ha;have HQ:=hJ hq;clear ha hq
   by_cases hlt:i<n
   ·obtain ⟨b1,off,rfl,q2⟩:=HL.out.row i (by omega)
    obtain ⟨b2,Ju,rfl,r2⟩:=HM.out.row i (by omega);have c0:=(HQ.out.cell _).trans q2;have c1:=(HQ.out.cell _).trans r2;have g1:(i:Int)<(n:Int):=by omega
    have g0:(0:Int)<=(i:Int):=by omega
    have HX:Hid (L.getD i 0=M.getD i 0->∀ j,j<i+1->L.getD j 0=M.getD j 0):=by
     intro he j hj
     by_cases e:j=i
     ·subst e;exact he
     ·exact HA.out j (by omega)
    have HY:Hid (¬ L.getD i 0=M.getD i 0->¬ L=M):=fun he e=>he (by rw [e])
    clear q2 r2;generalize L.getD i 0=u at *;generalize M.getD i 0=v at *
    by_cases he:u=v
    ·have jK:=hJ (HX.out he)
     have h2:(u==v)=true:=by simp [he]
     clear HX HY;subst he;go_wp2
     go_quiet (fail)
     go_wp2;go_roundw
     case rel=>exact ⟨i+1,by omega,by go_num,jK.out,HQ.out.trans (Qt.drewN _ _)⟩
     case measure=>simp [intOf];omega
    ·have lR:=hJ (HY.out he)
     have h2:(u==v)=false:=by simp [he]
     clear HX HY;go_wp2
     go_quiet (fail)
     go_wp2;go_ret;exact ⟨⟨false,rfl,by simp [lR.out]⟩,HQ.out.trans (Qt.drewN _ _)⟩
   ·have hin:i=n:=by omega
    subst hin;have HT:Hid (L=M):=Oa (by omega) (fun j hj=>HA.out j (by omega));go_wp2;go_ret;exact ⟨⟨true,rfl,by simp [HT.out]⟩,HQ.out⟩
 ·have jK:Hid (¬ L=M):=fun e=>h1 (by rw [<- hn,<- hn',e])
  have yE:¬ (n:Int)=(n':Int):=by omega
  go_enter Tryz.func33,Tryz.ntmps33;go_wp2;go_ret;exact ⟨⟨false,rfl,by simp [jK.out]⟩,Qt.refl _⟩
theorem JJ {x:Addr}{len cap:Nat}(hl:len<=cap)(hz:zs.length=cap)(hc:∀ i,i<zs.length->w.cell? (x.add i)=some (.int .i64 (zs.getD i 0))):Nt w (some x) (zs.take len):=by
 refine ⟨fun i hi=>?_⟩;rw [List.length_take] at hi;have h0:=hc 0 (by omega);obtain ⟨b,off,spot⟩:=x;have hs:spot=none:=by simpa [Addr.add] using World.cell?_spot h0
 subst hs;refine ⟨b,off,rfl,?_⟩;have:=hc i (by omega);rw [Addr.add_lit] at this;rw [this];simp [List.getD,show i<len by omega]
end Go.Proofs.YtgldkdbkaachkaaGreatDoor
