import Derived.Test.YtgldkdbkaachkaaGreatDoorK3
import Derived.Laws.BytesArg
import Derived.Laws.AppendOwnNone
import Derived.Laws.BitsAllLaws
set_option maxRecDepth 100000
set_option maxHeartbeats 1000000
namespace Go.Proofs.YtgldkdbkaachkaaGreatDoor
open Go.RowKit
variable {zs:List Int}{xs:List Value}{base c cap n:Nat}{a ao:Option Addr}{t:TypeId}{v:Value}{w w':World}
theorem dS (hb:ai w ao n cap zs) :
  (convert 25 9 (.slice ao n cap)).run Tryz.prog w=.ok (.string (strOfNums zs)) w:=by
 cases ao with
 | none =>
  obtain ⟨rfl,rfl⟩:=hb.nil rfl;have:zs=[]:=List.length_eq_zero_iff.1 hb.len;subst this;exact run_convert_bytes_nil w 25 5 Tryz.underlying25 Tryz.underlying5 0 0 9 Tryz.underlying9
 | some ad =>
  rw [run_convert_bytes_string w 25 9 5 _ n cap Tryz.underlying25 Tryz.underlying5 Tryz.underlying9]
  have hl:(loadCells ad n).run Tryz.prog w=.ok (zs.map (Value.int .u8)).toArray w:=by
   have:=run_loadCells_list (P:=Tryz.prog) w ad (zs.map (Value.int .u8)) (hb.cells ad rfl)
   rwa [List.length_map,hb.len] at this
  rw [run_bytesToString w ad n cap zs hl,foldl_push_bytes];simp [strOfNums]
theorem str_inj {a b:List Int}(ha:Bt a)(hb:Bt b)(h:strOfNums a=strOfNums b):a=b:=by
 have h1:a.map (fun n=>UInt8.ofNat n.toNat)=b.map (fun n=>UInt8.ofNat n.toNat):=by
  have:=congrArg (fun s:ByteArray=>s.data.toList) h;simpa [strOfNums_data] using this
 have hl:a.length=b.length:=by have:=congrArg List.length h1;simpa using this
 apply List.ext_getElem hl;intro i h2 h3;have:=congrArg (fun l:List UInt8=>l[i]?) h1;simp only [List.getElem?_map,List.getElem?_eq_getElem h2,List.getElem?_eq_getElem h3,Option.map_some,Option.some.injEq] at this;have e:=congrArg UInt8.toNat this;have ga:=ha a[i] (List.getElem_mem h2);have gb:=hb b[i] (List.getElem_mem h3);simp at e;omega
theorem cw (ao bo:Option Addr)(n m c d:Nat)(za zb:List Int)(w:World)(ha:ai w ao n c za)(hb:ai w bo m d zb)(e:za=zb) :
  Calls Tryz.prog 11 #[.slice ao n c,.slice bo m d] w fun en w'=>en=.returned (.bool true)/\w'=w:=by
 subst e;have h1:=dS ha;have h2:=dS hb;clear ha hb;go_enter Tryz.func11,Tryz.ntmps11;go_wp2;go_ret;exact ⟨rfl,rfl⟩
theorem lu (ao bo:Option Addr)(n m c d:Nat)(za zb:List Int)(w:World)(ha:ai w ao n c za)(hb:ai w bo m d zb)(ba:Bt za)(bb:Bt zb)(e:za≠zb) :
  Calls Tryz.prog 11 #[.slice ao n c,.slice bo m d] w fun en w'=>en=.returned (.bool false)/\w'=w:=by
 have hne:((strOfNums za).toList==(strOfNums zb).toList)=false:=by
  rw [beq_eq_false_iff_ne,ByteArray.toList_eq,ByteArray.toList_eq];intro h;refine e (str_inj ba bb ?_);have:=Array.toList_inj.1 h;cases hx:strOfNums za;cases hy:strOfNums zb;simp_all
 have h1:=dS ha;have h2:=dS hb;clear ha hb;go_enter Tryz.func11,Tryz.ntmps11;go_wp2;go_ret;exact ⟨rfl,rfl⟩
theorem af {a b c:World}{R:Nat}(h:a.grownBy b none)(k:b.grownBy c (some R))(hR:a.heap.size<=R):a.grownBy c none :=
 ⟨k.os.trans h.os,k.tape.trans h.tape,k.output.trans h.output,Nat.le_trans h.size k.size,
  fun i hi _=>(k.block i (Nat.lt_of_lt_of_le hi h.size) (by intro e;have:=Option.some.inj e;omega)).trans (h.block i hi (by simp))⟩
theorem ai.heap (h:ai w ao n cap zs)(e:w'.heap=w.heap):ai w' ao n cap zs :=
 ⟨h.len,h.nil,fun ad had j u hu=>(World.cell?_of_block (by rw [e])).trans (h.cells ad had j u hu)⟩
theorem aq {ops:Array Oper}{rest:List Oper}{o:Oper}{a:Act}{Q:Exit->Act->World->Prop}(hgd:o.guard=none)(s x:Operand)
  (ho:o.op=.call { callee:=.builtin .append,args:=#[s,x],argTypes:=#[25,25] })
  (base:Nat) (v:Value) (n:Nat) (zs:List Int) (hs:a.eval s=v) (hown:w.ownsRow base 5 1 v n (zs.map (Value.int .u8)))
  (ao:Option Addr) (m c:Nat) (ts:List Int) (hx:a.eval x=.slice ao m c) (hb:ai w ao m c ts) (h63:n+m<=140737488355328) (hbase:base<=w.heap.size)
  (h:∀ v' w',w'.ownsRow base 5 1 v' (n+m) ((zs++ts).map (Value.int .u8))->w.grownBy w' v.ownBlock->wpList Tryz.prog ops Q rest (a.put o.dst v') w'):wpList Tryz.prog ops Q (o::rest) a w:=by
 obtain ⟨i0,hi,hz0,hz1,hz2⟩:=info_parts bF;cases ao with
 | none =>
  obtain ⟨rfl,rfl⟩:=hb.nil rfl;have ht:ts=[]:=List.length_eq_zero_iff.1 hb.len;subst ht;refine wpList_append_own_none hgd s x 25 ho base 5 i0 1 Tryz.underlying25 hi v n _ hs hown hx ?_;exact h v w (by rw [List.append_nil];exact hown) (World.grownBy.refl _ _)
 | some ad =>
  refine wpList_append_own w hgd s x 25 ho base 5 i0 (.int .u8 0) 1 1 Tryz.underlying25 hi hz0 hz1 hz2 rfl (by decide) v n _ hs hown ad m c (ts.map (Value.int .u8)) hx (by rw [List.length_map,hb.len,Nat.mul_one]) (hb.cells ad rfl) (ints_oneCell _ _) (by unfold maxLen;omega) (by omega) hbase ?_;intro v' w' h1 h2 _;exact h v' w' (by rw [List.map_append];exact h1) h2
theorem tC (h:w.ownsRow base 5 1 v n xs)(hn:0<n) :
  ∃ g cap,v=.slice (some ⟨g,0,none⟩) n cap/\base<=g/\g<w.heap.size/\n<=cap:=by
 rcases h.2 with ⟨_,h0⟩ | ⟨g,cap,cur,hv,hb,hg,hc,_⟩
 ·omega
 ·exact ⟨g,cap,hv,hb,(Array.getElem?_eq_some_iff.1 hg).1,hc⟩
theorem bq (ao:Option Addr)(n cap:Nat)(zs:List Int)(w:World)(hb:ai w ao n cap zs)(hn:n<=140737488351232) :
  Calls Tryz.prog 9 #[.slice ao n cap] w fun e w' =>
   e=.returned (.slice (some ⟨w.heap.size,0,none⟩) n n) /\
   w'.ownsRow w.heap.size 5 1 (.slice (some ⟨w.heap.size,0,none⟩) n n) n (zs.map (Value.int .u8))/\w.grownBy w' none/\w.heap.size<w'.heap.size:=by
 obtain ⟨i0,hi,hz0,hz1,hz2⟩:=info_parts bF;have HB:Hid (ai w ao n cap zs):=hb;clear hb;go_enter Tryz.func9,Tryz.ntmps9
 go_wp2_with (at_make;refine wpList_make_own _ rfl _ _ 25 rfl w.heap.size 5 i0 (.int .u8 0) 1 Tryz.underlying25 hi hz0 hz1 _ _ _ n rfl rfl rfl ?b2 ?b3 (Nat.le_refl _) ?_)
 case b2=>rw [hz2];omega
 case b3=>unfold maxLen;omega
 intro w0 aR ej;have hb0:=HB.out.ae ej
 go_wp2_with (at_builtin;refine wpList_append_fits_any _ rfl _ _ 25 rfl w.heap.size 5 i0 1 Tryz.underlying25 hi hz1 w.heap.size 0 n _ rfl aR _ n _ (zs.map (Value.int .u8)) rfl (by rw [List.length_map,hb0.len,Nat.mul_one]) hb0.nil hb0.cells (ints_oneCell _ _) (by omega) ?_)
 intro w1 hown1 gF
 have hg:w.grownBy w1 none:=⟨gF.os.trans ej.os,gF.tape.trans ej.tape,gF.output.trans ej.output,Nat.le_trans ej.size gF.size,
  fun k hk _=>(gF.block k (by have:=ej.size;omega) (by intro e;have:=Option.some.inj e;omega)).trans (ej.block k hk (by simp))⟩
 have hs:w.heap.size<w1.heap.size:=(hown1.lt w.heap.size rfl).2;go_wp2;go_ret;exact ⟨rfl,hown1,hg,hs⟩
theorem aY (h:w.ownsRow base 5 1 v n (zs.map (Value.int .u8))) :
  ∃ ao cap,v=.slice ao n cap/\ai w ao n cap zs:=by
 rcases h.2 with ⟨rfl,rfl⟩ | ⟨g,cap,cur,rfl,_⟩
 ·have:zs=[]:=by have:=h.1;simpa using this
  subst this;exact ⟨none,0,rfl,ai.empty w⟩
 ·exact ⟨_,cap,rfl,ai.aP h⟩
theorem bO{wr w1:World}{o:Obj}(hg:w.grownBy wr none)(hown:wr.ownsRow base 5 1 v n xs)(hb:w.heap.size<=base)(h:(wr.alloc o).grownBy w1 v.ownBlock):w.grownBy w1 none:=by
 refine ⟨h.os.trans hg.os,h.tape.trans hg.tape,h.output.trans hg.output,?_,fun k hk _=>?_⟩
 ·have:=h.size;have:=hg.size;simp at *;omega
 ·have hk2:k<wr.heap.size:=Nat.lt_of_lt_of_le hk hg.size
  rw [h.block k (by simp;omega) (by intro e;have:=(hown.lt k e.symm).1;omega),Below.heap_alloc wr o k hk2];exact hg.block k hk (by simp)
theorem hJ {p:Prop}(h:p):Hid p:=h
def pA (w:World):Prop:=∀ i,i<16->w.cell? ⟨2,i,none⟩=some (.int .u32 ((tab.getD i 0:Nat):Int))
theorem pA.kept {row:Option Nat}(h:pA w)(hg:w.grownBy w' row)(hne:row≠some 2):pA w':=by
 intro i hi;exact hg.cell (h i hi) (by intro e;exact hne e.symm)
theorem pA.ae (h:pA w)(hg:w.grownBy w' none):pA w':=h.kept hg (by simp)
theorem nG (r:Nat)(w:World)(hr:r<4294967296)(ht:pA w) :
  Calls Tryz.prog 223 #[.int .u32 r] w fun e w'=>e=.returned (.int .u32 ((aX 4 r:Nat):Int))/\w'=w:=by
 have hc:w.cell? ⟨2,r % 16,none⟩=some (.int .u32 ((tab.getD (r % 16) 0:Nat):Int)):=ht _ (Nat.mod_lt _ (by decide));have hx:=u32_xor_nat (r / 16) (tab.getD (r % 16) 0) (by omega) (Vq _);rw [<- Du] at hx;clear ht;go_enter Tryz.func223,Tryz.ntmps223;go_wp2;go_ret;refine ⟨congrArg Ending.returned (congrArg (Value.int IntKind.u32) ?_),rfl⟩;rw [<- hx];simp [List.getD]
theorem Gm (c:Nat)(h:c<4294967296):bits .xor .u32 4294967295 (c:Int)=((4294967295 - c:Nat):Int):=by
 have:=u32_xor_nat 4294967295 c (by decide) h;rw [<- not_xor h] at this;exact this
theorem wS (r:Nat)(zs:List Int)(z:Int):runs r (zs++[z])=aX 8 (runs r zs ^^^ z.toNat):=by
 rw [ny,dG,gD]
theorem tD (zs:List Int)(i:Nat)(h:i<zs.length):zs.take (i+1)=zs.take i++[zs.getD i 0]:=by
 rw [List.take_add_one,List.getElem?_eq_getElem h];simp [List.getD,List.getElem?_eq_getElem h]
theorem bts (h:Bt zs):Bts zs:=h
theorem DB (c:Nat)(ao:Option Addr)(n cap:Nat)(zs:List Int)(w:World)(hc:c<4294967296)(hb:ai w ao n cap zs)(bt:Bt zs)(ht:pA w)(hn:n<=140737488351232) :
  Calls Tryz.prog 189 #[.int .u32 c,.slice ao n cap] w fun e w'=>e=.returned (.int .u32 ((upd c zs:Nat):Int))/\w'=w:=by
 have HB:Hid (ai w ao n cap zs):=hb;have HT:Hid (pA w):=ht;have HL:Hid (zs.length=n):=hb.len;have adP:=Gm c hc;clear hb ht;go_enter Tryz.func189,Tryz.ntmps189;go_wp2;go_loopw [5,12] (fun sr si wr=>∃ i:Nat,i<=n/\si=.int .i64 i/\sr=.int .u32 ((runs (4294967295 - c) (zs.take i):Nat):Int)/\wr=w) (fun _ si _=>n - (intOf si).toNat)
 case atStart=>exact ⟨0,by omega,rfl,by rw [List.take_zero,gD,<- adP];rfl,rfl⟩
 case round =>
  obtain ⟨i,hi,rfl,rfl,rfl⟩:=hrel;have Ml:runs (4294967295 - c) (zs.take i)<4294967296:=su (bts (bt.take i)) (by omega)
  by_cases hlt:i<n
  ·obtain ⟨b,off,rfl,ru,hcell⟩:=HB.out.at (by omega)
   have XQ:=hcell i hlt;have hz:=bt.getD i;obtain ⟨z,hzz⟩:∃ z:Nat,zs.getD i 0=(z:Int):=⟨(zs.getD i 0).toNat,by omega⟩;have hx:=u32_xor_nat (runs (4294967295 - c) (zs.take i)) z Ml (by omega);have hlx:=Dt Ml (show z<4294967296 by omega);rw [hzz] at XQ;have hz2:z<=255:=by omega
   have hr2:runs (4294967295 - c) (zs.take (i+1))=aX 4 (aX 4 (runs (4294967295 - c) (zs.take i) ^^^ z)):=by
    rw [tD zs i (by have:=HL.out;omega),wS,hzz,Int.toNat_natCast,show (8:Nat)=4+4 by decide,aC]
   clear hcell hz hzz;have HR:=hJ hr2;clear hr2;generalize runs (4294967295 - c) (zs.take i)=r at *
   go_wp2_with fail
   refine (nG _ _ hlx HT.out).mono ?_;rintro e w' ⟨rfl,rfl⟩;have hl2:=sq 4 hlx
   go_wp2_with fail
   refine (nG _ _ hl2 HT.out).mono ?_;rintro e w' ⟨rfl,rfl⟩;go_wp2;go_roundw
   case rel=>exact ⟨i+1,by omega,by go_num,by rw [HR.out],by trivial⟩
   case measure=>simp [intOf];omega
  ·have hin:i=n:=by omega
   have YS:zs.take i=zs:=List.take_of_length_le (by have:=HL.out;omega);rw [YS] at Ml ⊢;have TY:=Gm _ Ml;have HR:=hJ TY;clear TY YS;generalize Mm:runs (4294967295 - c) zs=r at *;have HG:=hJ Mm;clear Mm;go_wp2;go_ret;refine ⟨congrArg Ending.returned (congrArg (Value.int IntKind.u32) ?_),rfl⟩;have h2:=HR.out;unfold upd;rw [HG.out,<- h2];rfl
theorem Qr (ao:Option Addr)(n cap:Nat)(zs:List Int)(w:World)(hb:ai w ao n cap zs)(bt:Bt zs)(ht:pA w)(hn:n<=140737488351232) :
  Calls Tryz.prog 137 #[.slice ao n cap] w fun e w'=>e=.returned (.int .u32 ((upd 0 zs:Nat):Int))/\w'=w:=by
 go_enter Tryz.func137,Tryz.ntmps137
 go_wp2_with fail
 refine (DB 0 ao n cap zs w (by decide) hb bt ht hn).mono ?_;rintro e w' ⟨rfl,rfl⟩;have hl:=tj 0 zs;generalize hs:upd 0 zs=s at *;have HS:=hJ hs;clear hs hb bt ht;go_wp2;go_ret;rw [HS.out];exact ⟨rfl,rfl⟩
def tE (s:Nat):Value:=.agg #[.int .u8 ((s % 256:Nat):Int),.int .u8 ((s / 256 % 256:Nat):Int),.int .u8 ((s / 65536 % 256:Nat):Int),.int .u8 ((s / 16777216 % 256:Nat):Int)]
theorem ji (ao:Option Addr)(n cap:Nat)(zs:List Int)(w:World)(hb:ai w ao n cap zs)(bt:Bt zs)(ht:pA w)(hn:n<=140737488351232) :
  Calls Tryz.prog 53 #[.slice ao n cap] w fun e w'=>e=.returned (tE (upd 0 zs))/\w.grownBy w' none:=by
 go_enter Tryz.func53,Tryz.ntmps53
 go_wp2_with fail
 refine (Qr ao n cap zs _ (hb.ae (World.grownBy_alloc w _ none)) bt (ht.ae (World.grownBy_alloc w _ none)) hn).mono ?_;rintro e w' ⟨rfl,rfl⟩;have hl:=tj 0 zs;generalize hs:upd 0 zs=s at *;have HS:=hJ hs;clear hs hb bt ht;go_wp2;refine bodyPost_ret (results_cell_row rfl _ _ w.heap.size 101 _ (0,0) _ rfl (heap_alloc_new _ _) Tryz.underlying101 rfl (by kernel_rfl)) rfl ?_;rw [HS.out];refine ⟨?_,World.grownBy_alloc w _ none⟩;unfold tE;have h1:((s % 256:Nat):Int)=(s:Int) % 256:=by omega
 have h2:((s / 256 % 256:Nat):Int)=(s:Int) / 256 % 256:=by omega
 have h3:((s / 65536 % 256:Nat):Int)=(s:Int) / 65536 % 256:=by omega
 have h4:((s / 16777216 % 256:Nat):Int)=(s:Int) / 16777216:=by omega
 rw [h1,h2,h3,h4]
def Nw (w w':World)(t:TypeId)(a:Option Addr)(n:Nat):Prop:=0<n->∃ b cur,a=some ⟨b,0,none⟩/\w.heap.size<=b/\w'.heap[b]?=some (.cells cur t (0,0))
theorem Nw.zero (w w':World)(t:TypeId)(a:Option Addr):Nw w w' t a 0:=fun h=>by omega
theorem Nw.aP {sz:Nat}(h:w'.ownsRow base t sz (.slice a n cap) n xs)(hb:w.heap.size<=base):Nw w w' t a n:=by
 intro h0;rcases h.2 with ⟨_,h1⟩ | ⟨g,cap',cur,e,hg,hc,_⟩
 ·omega
 ·injection e with e1 _ _
  exact ⟨g,cur,e1,Nat.le_trans hb hg,hc⟩
theorem Nw.ae{w'':World}(h:Nw w w' t a n)(hg:w'.grownBy w'' none):Nw w w'' t a n:=by
 intro h0;obtain ⟨b,cur,e1,e2,e3⟩:=h h0;exact ⟨b,cur,e1,e2,(hg.block b (Array.getElem?_eq_some_iff.1 e3).1 (by simp)).trans e3⟩
theorem Nw.from{w0:World}(h:Nw w w' t a n)(hs:w0.heap.size<=w.heap.size):Nw w0 w' t a n:=by
 intro h0;obtain ⟨b,cur,e1,e2,e3⟩:=h h0;exact ⟨b,cur,e1,Nat.le_trans hs e2,e3⟩
theorem DC (ao:Option Addr)(n cap:Nat)(zs:List Int)(x d:Nat)(w:World)(hb:ai w ao n cap zs)(hn:n<=1099511627776)(_hx:x<18446744073709551616)(hd:d<=8) :
  Calls Tryz.prog 110 #[.slice ao n cap,.int .u64 x,.int .i64 d] w fun e w'=>∃ eX cap',e=.returned (.slice eX (n+d) cap')/\ai w' eX (n+d) cap' (zs++lb d x)/\w.grownBy w' none:=by
 go_enter Tryz.func110,Tryz.ntmps110
 go_wp2_with fail
 refine (bq ao n cap zs _ hb (by omega)).mono ?_;rintro en w0 ⟨rfl,aR,hg0,hs0⟩;clear hb;go_wp2;go_loopw [7,8] (fun out si wr=>∃ (k:Nat),k<=d/\si=.int .i64 k/\wr.ownsRow w.heap.size 5 1 out (n+k) ((zs++lb k x).map (Value.int .u8))/\w.grownBy wr none) (fun _ si _=>d - (intOf si).toNat)
 case atStart=>exact ⟨0,by omega,rfl,by simpa [lb] using aR,hg0⟩
 case round =>
  obtain ⟨k,hk,rfl,hown,hg⟩:=hrel
  by_cases hlt:k<d
  ·go_wp2_with (at_builtin;refine aq rfl _ _ rfl w.heap.size _ (n+k) (zs++lb k x) rfl (hown.alloc _) (some ⟨wr.heap.size,0,none⟩) 1 1 [(x:Int) / 2 ^ (8*k) % 256] rfl (ai.lit wr 5 _ [(x:Int) / 2 ^ (8*k) % 256] 1 rfl rfl) (by omega) (by have:=hg.size;simp;omega) ?_)
   intro v' w1 h1 h2;have hg2:=bO hg hown (Nat.le_refl _) h2
   have hown2:w1.ownsRow w.heap.size 5 1 v' (n+(k+1)) ((zs++lb (k+1) x).map (Value.int .u8)):=by
    rw [ia,List.map_append,List.map_append,<- Nat.add_assoc,<- ep];simpa using h1
   clear h1 h2 hown;go_wp2;go_roundw
   case rel=>exact ⟨k+1,by omega,by go_num,hown2,hg2⟩
   case measure=>simp [intOf];omega
  ·have vS:k=d:=by omega
   subst vS;obtain ⟨eX,cap',hv,hB⟩:=aY hown;subst hv;have HB:Hid (ai wr eX (n+k) cap' (zs++lb k x)):=hB;have HG:Hid (w.grownBy wr none):=hg;clear hB hown hg;go_wp2;go_ret;exact ⟨_,_,rfl,HB.out,HG.out⟩
theorem TZ (ao:Option Addr)(n cap:Nat)(zs:List Int)(x:Nat)(w:World)(hb:ai w ao n cap zs)(hn:n<=1099511627776)(hx:x<18446744073709551616) :
  Calls Tryz.prog 111 #[.slice ao n cap,.int .u64 x] w fun e w'=>∃ eX cap',e=.returned (.slice eX (n+(ah x).length) cap')/\ai w' eX (n+(ah x).length) cap' (zs++ah x)/\w.grownBy w' none:=by
 have HL:Hid (zs.length=n):=hb.len;have hvl:=jS x;go_enter Tryz.func111,Tryz.ntmps111
 go_wp2_with fail
 refine (bq ao n cap zs _ hb (by omega)).mono ?_;rintro en w0 ⟨rfl,aR,hg0,hs0⟩;clear hb;go_wp2
 go_loopw [5,1] (fun out sx wr=>∃ (f y:Nat) (pre:List Int),1<=f/\f<=10/\y<2*128 ^ (f - 1)/\sx=.int .u64 y/\y<18446744073709551616/\pre++lf f y=zs++ah x /\
   wr.ownsRow w.heap.size 5 1 out pre.length (pre.map (Value.int .u8))/\w.grownBy wr none) (fun _ sx _=>(intOf sx).toNat)
 case atStart=>exact ⟨10,x,zs,by omega,by omega,by simp;omega,rfl,hx,rfl,by rw [HL.out];exact aR,hg0⟩
 case round =>
  obtain ⟨f,y,pre,Dy,hf2,hy,rfl,VC,hpre,hown,hg⟩:=hrel;have HP:Hid (pre++lf f y=zs++ah x):=hpre;have hpl:pre.length<=n+10:=by have:=congrArg List.length hpre;simp at this;have:=HL.out;omega
  have HY:Hid (y<2*128 ^ (f - 1)):=hy;clear hpre hy
  by_cases hlt:y<128
  ·go_wp2_with (at_builtin;refine aq rfl _ _ rfl w.heap.size _ pre.length pre rfl (hown.alloc _) (some ⟨wr.heap.size,0,none⟩) 1 1 [(y:Int)] rfl (ai.lit wr 5 _ [(y:Int)] 1 rfl rfl) (by omega) (by have:=hg.size;simp;omega) ?_)
   intro v' w1 h1 h2;have hg2:=bO hg hown (Nat.le_refl _) h2;have nC:pre++[(y:Int)]=zs++ah x:=by rw [<- HP.out];obtain ⟨f',rfl⟩:∃ f',f=f'+1:=⟨f - 1,by omega⟩;rw [cP f' y hlt]
   have jQ:pre.length+1=n+(ah x).length:=by have:=congrArg List.length nC;simp at this;have:=HL.out;omega
   have h3:w1.ownsRow w.heap.size 5 1 v' (n+(ah x).length) ((zs++ah x).map (Value.int .u8)):=by rw [<- nC,<- jQ];simpa using h1
   obtain ⟨eX,cap',hv,hB⟩:=aY h3;subst hv;have HB:Hid (ai w1 eX (n+(ah x).length) cap' (zs++ah x)):=hB;have HG:Hid (w.grownBy w1 none):=hg2;clear hB hown hg h1 h2 h3 nC jQ hg2;go_wp2;go_ret;exact ⟨_,_,rfl,HB.out,HG.out⟩
  ·go_wp2_with (at_builtin;refine aq rfl _ _ rfl w.heap.size _ pre.length pre rfl (hown.alloc _) (some ⟨wr.heap.size,0,none⟩) 1 1 [(y:Int) % 128+128] rfl (ai.lit wr 5 _ [(y:Int) % 128+128] 1 rfl rfl) (by omega) (by have:=hg.size;simp;omega) ?_)
   intro v' w1 h1 h2;have hg2:=bO hg hown (Nat.le_refl _) h2;obtain ⟨f',rfl⟩:∃ f',f=f'+1:=⟨f - 1,by omega⟩;have hy:=HY.out;have hp:=HP.out;rw [iB f' y hlt] at hp
   have hf':1<=f':=by
    rcases Nat.eq_zero_or_pos f' with h | h
    ·subst h;simp at hy;omega
    ·exact h
   have jE:y / 128<2*128 ^ (f' - 1):=by
    rw [Nat.add_sub_cancel,show f'=(f' - 1)+1 by omega,Nat.pow_succ] at hy;omega
   have IB:(pre++[(y:Int) % 128+128])++lf f' (y / 128)=zs++ah x:=by rw [<- hp];simp
   have Qo:Hid ((pre++[(y:Int) % 128+128])++lf f' (y / 128)=zs++ah x):=IB;have De:Hid (y / 128<2*128 ^ (f' - 1)):=jE
   have H1:Hid (w1.ownsRow w.heap.size 5 1 v' (pre++[(y:Int) % 128+128]).length ((pre++[(y:Int) % 128+128]).map (Value.int .u8))):=by
    show w1.ownsRow _ _ _ _ _ _
    simpa using h1
   clear hp IB hy jE HP HY h1 h2 hown;go_wp2;go_roundw
   case rel=>exact ⟨f',y / 128,pre++[(y:Int) % 128+128],hf',by omega,De.out,by go_num,by omega,Qo.out,H1.out,hg2⟩
   case measure=>simp [intOf];omega
theorem fO (x:Nat)(w:World)(hx:x<18446744073709551616) :
  Calls Tryz.prog 173 #[.int .u64 x] w fun e w'=>e=.returned (.int .i64 ((ah x).length:Nat))/\w'=w:=by
 have hvl:=jS x;go_enter Tryz.func173,Tryz.ntmps173;go_wp2;go_loopw [0,3] (fun sx sn wr=>∃ (f y c:Nat),1<=f/\y<2*128 ^ (f - 1)/\sx=.int .u64 y/\y<18446744073709551616/\sn=.int .i64 c/\c+(lf f y).length=(ah x).length+1/\wr=w) (fun sx _ _=>(intOf sx).toNat)
 case atStart=>exact ⟨10,x,1,by omega,by simp;omega,rfl,hx,rfl,Nat.add_comm _ _,rfl⟩
 case round =>
  obtain ⟨f,y,c,Dy,hy,rfl,VC,rfl,hc,rfl⟩:=hrel;obtain ⟨f',rfl⟩:∃ f',f=f'+1:=⟨f - 1,by omega⟩;have HC:Hid (c+(lf (f'+1) y).length=(ah x).length+1):=hc;have hcb:c<=11:=by omega
  have HY:Hid (y<2*128 ^ (f'+1 - 1)):=hy;clear hc hy
  by_cases hlt:y<128
  ·have nC:c=(ah x).length:=by have:=HC.out;rw [cP f' y hlt] at this;simp at this;omega
   have HF:Hid (c=(ah x).length):=nC;clear nC;go_wp2;go_ret;rw [<- HF.out];exact ⟨rfl,rfl⟩
  ·have h1:=HC.out
   have hy:=HY.out;rw [iB f' y hlt,List.length_cons] at h1
   have hf':1<=f':=by
    rcases Nat.eq_zero_or_pos f' with h | h
    ·subst h;simp at hy;omega
    ·exact h
   have jE:y / 128<2*128 ^ (f' - 1):=by
    rw [Nat.add_sub_cancel,show f'=(f' - 1)+1 by omega,Nat.pow_succ] at hy;omega
   have HC2:Hid ((c+1)+(lf f' (y / 128)).length=(ah x).length+1):=by show _=_;omega
   have De:Hid (y / 128<2*128 ^ (f' - 1)):=jE;clear h1 hy jE HC HY;go_wp2;go_roundw
   case rel=>exact ⟨f',y / 128,c+1,hf',De.out,by go_num,by omega,by go_num,HC2.out,trivial⟩
   case measure=>simp [intOf];omega
theorem ry (B:Nat)(w:World)(h:w.cell? ⟨B,8,none⟩=some (.slice ao 0 c)) :
  Calls Tryz.prog 57 #[.pointer (some ⟨B,0,none⟩)] w fun en w'=>en=.returned (.bool true)/\w'=w:=by
 go_enter Tryz.func57,Tryz.ntmps57;go_wp2;refine wp_loop_rounds 1 ?_;rw [rounds_succ];go_wp2;go_ret;exact ⟨rfl,rfl⟩
theorem Au (B:Nat)(id:Int)(w:World)(h:w.cell? ⟨B,8,none⟩=some (.slice ao 0 c)) :
  Calls Tryz.prog 70 #[.pointer (some ⟨B,0,none⟩),.int .i64 id] w fun en w'=>en=.returned (.int .i64 id)/\w'=w:=by
 go_enter Tryz.func70,Tryz.ntmps70;go_wp2;refine wp_loop_rounds 1 ?_;rw [rounds_succ];go_wp2;go_ret;exact ⟨rfl,rfl⟩
theorem DD (B:Nat)(id:Int)(w:World)(h:w.cell? ⟨B,8,none⟩=some (.slice ao 0 c)) :
  Calls Tryz.prog 83 #[.pointer (some ⟨B,0,none⟩),.int .i64 id] w fun en w'=>en=.returned (.tuple #[.int .i64 id,.bool true])/\w'=w:=by
 go_enter Tryz.func83,Tryz.ntmps83;go_wp2;refine wp_loop_rounds 1 ?_;rw [rounds_succ];go_wp2
 go_ret2
 exact ⟨rfl,rfl⟩
theorem DF (B:Nat)(id t:Int)(w:World)(h:w.cell? ⟨B,8,none⟩=some (.slice ao 0 c)) :
  Calls Tryz.prog 96 #[.pointer (some ⟨B,0,none⟩),.int .i64 id,.int .i64 t] w fun en w'=>en=.returned (.int .i64 id)/\w'=w:=by
 go_enter Tryz.func96,Tryz.ntmps96;go_wp2;refine wp_loop_rounds 1 ?_;rw [rounds_succ];go_wp2;go_ret;exact ⟨rfl,rfl⟩
theorem mA (B:Nat)(w:World)(h:w.cell? ⟨B,14,none⟩=some (.slice ao 0 c)) :
  Calls Tryz.prog 59 #[.pointer (some ⟨B,0,none⟩)] w fun en w'=>en=.returned (.bool true)/\w'=w:=by
 go_enter Tryz.func59,Tryz.ntmps59;go_wp2;refine wp_loop_rounds 1 ?_;rw [rounds_succ];go_wp2;go_ret;exact ⟨rfl,rfl⟩
theorem tF (B:Nat)(id:Int)(w:World)(h:w.cell? ⟨B,14,none⟩=some (.slice ao 0 c)) :
  Calls Tryz.prog 72 #[.pointer (some ⟨B,0,none⟩),.int .i64 id] w fun en w'=>en=.returned (.int .i64 id)/\w'=w:=by
 go_enter Tryz.func72,Tryz.ntmps72;go_wp2;refine wp_loop_rounds 1 ?_;rw [rounds_succ];go_wp2;go_ret;exact ⟨rfl,rfl⟩
theorem vT (B:Nat)(id:Int)(w:World)(h:w.cell? ⟨B,14,none⟩=some (.slice ao 0 c)) :
  Calls Tryz.prog 85 #[.pointer (some ⟨B,0,none⟩),.int .i64 id] w fun en w'=>en=.returned (.tuple #[.int .i64 id,.bool true])/\w'=w:=by
 go_enter Tryz.func85,Tryz.ntmps85;go_wp2;refine wp_loop_rounds 1 ?_;rw [rounds_succ];go_wp2
 go_ret2
 exact ⟨rfl,rfl⟩
theorem vU (B:Nat)(id t:Int)(w:World)(h:w.cell? ⟨B,14,none⟩=some (.slice ao 0 c)) :
  Calls Tryz.prog 98 #[.pointer (some ⟨B,0,none⟩),.int .i64 id,.int .i64 t] w fun en w'=>en=.returned (.int .i64 id)/\w'=w:=by
 go_enter Tryz.func98,Tryz.ntmps98;go_wp2;refine wp_loop_rounds 1 ?_;rw [rounds_succ];go_wp2;go_ret;exact ⟨rfl,rfl⟩
theorem rz (B:Nat)(w:World)(h:w.cell? ⟨B,17,none⟩=some (.slice ao 0 c)) :
  Calls Tryz.prog 60 #[.pointer (some ⟨B,0,none⟩)] w fun en w'=>en=.returned (.bool true)/\w'=w:=by
 go_enter Tryz.func60,Tryz.ntmps60;go_wp2;refine wp_loop_rounds 1 ?_;rw [rounds_succ];go_wp2;go_ret;exact ⟨rfl,rfl⟩
theorem Av (B:Nat)(id:Int)(w:World)(h:w.cell? ⟨B,17,none⟩=some (.slice ao 0 c)) :
  Calls Tryz.prog 73 #[.pointer (some ⟨B,0,none⟩),.int .i64 id] w fun en w'=>en=.returned (.int .i64 id)/\w'=w:=by
 go_enter Tryz.func73,Tryz.ntmps73;go_wp2;refine wp_loop_rounds 1 ?_;rw [rounds_succ];go_wp2;go_ret;exact ⟨rfl,rfl⟩
theorem DG (B:Nat)(id:Int)(w:World)(h:w.cell? ⟨B,17,none⟩=some (.slice ao 0 c)) :
  Calls Tryz.prog 86 #[.pointer (some ⟨B,0,none⟩),.int .i64 id] w fun en w'=>en=.returned (.tuple #[.int .i64 id,.bool true])/\w'=w:=by
 go_enter Tryz.func86,Tryz.ntmps86;go_wp2;refine wp_loop_rounds 1 ?_;rw [rounds_succ];go_wp2
 go_ret2
 exact ⟨rfl,rfl⟩
theorem DI (B:Nat)(id t:Int)(w:World)(h:w.cell? ⟨B,17,none⟩=some (.slice ao 0 c)) :
  Calls Tryz.prog 99 #[.pointer (some ⟨B,0,none⟩),.int .i64 id,.int .i64 t] w fun en w'=>en=.returned (.int .i64 id)/\w'=w:=by
 go_enter Tryz.func99,Tryz.ntmps99;go_wp2;refine wp_loop_rounds 1 ?_;rw [rounds_succ];go_wp2;go_ret;exact ⟨rfl,rfl⟩
theorem rA (B:Nat)(w:World)(h:w.cell? ⟨B,26,none⟩=some (.slice ao 0 c)) :
  Calls Tryz.prog 63 #[.pointer (some ⟨B,0,none⟩)] w fun en w'=>en=.returned (.bool true)/\w'=w:=by
 go_enter Tryz.func63,Tryz.ntmps63;go_wp2;refine wp_loop_rounds 1 ?_;rw [rounds_succ];go_wp2;go_ret;exact ⟨rfl,rfl⟩
theorem Aw (B:Nat)(id:Int)(w:World)(h:w.cell? ⟨B,26,none⟩=some (.slice ao 0 c)) :
  Calls Tryz.prog 76 #[.pointer (some ⟨B,0,none⟩),.int .i64 id] w fun en w'=>en=.returned (.int .i64 id)/\w'=w:=by
 go_enter Tryz.func76,Tryz.ntmps76;go_wp2;refine wp_loop_rounds 1 ?_;rw [rounds_succ];go_wp2;go_ret;exact ⟨rfl,rfl⟩
theorem DJ (B:Nat)(id:Int)(w:World)(h:w.cell? ⟨B,26,none⟩=some (.slice ao 0 c)) :
  Calls Tryz.prog 89 #[.pointer (some ⟨B,0,none⟩),.int .i64 id] w fun en w'=>en=.returned (.tuple #[.int .i64 id,.bool true])/\w'=w:=by
 go_enter Tryz.func89,Tryz.ntmps89;go_wp2;refine wp_loop_rounds 1 ?_;rw [rounds_succ];go_wp2
 go_ret2
 exact ⟨rfl,rfl⟩
theorem DK (B:Nat)(id t:Int)(w:World)(h:w.cell? ⟨B,26,none⟩=some (.slice ao 0 c)) :
  Calls Tryz.prog 102 #[.pointer (some ⟨B,0,none⟩),.int .i64 id,.int .i64 t] w fun en w'=>en=.returned (.int .i64 id)/\w'=w:=by
 go_enter Tryz.func102,Tryz.ntmps102;go_wp2;refine wp_loop_rounds 1 ?_;rw [rounds_succ];go_wp2;go_ret;exact ⟨rfl,rfl⟩
theorem pH (B:Nat)(w:World)(h:w.cell? ⟨B,29,none⟩=some (.slice ao 0 c)) :
  Calls Tryz.prog 64 #[.pointer (some ⟨B,0,none⟩)] w fun en w'=>en=.returned (.bool true)/\w'=w:=by
 go_enter Tryz.func64,Tryz.ntmps64;go_wp2;refine wp_loop_rounds 1 ?_;rw [rounds_succ];go_wp2;go_ret;exact ⟨rfl,rfl⟩
theorem xT (B:Nat)(id:Int)(w:World)(h:w.cell? ⟨B,29,none⟩=some (.slice ao 0 c)) :
  Calls Tryz.prog 77 #[.pointer (some ⟨B,0,none⟩),.int .i64 id] w fun en w'=>en=.returned (.int .i64 id)/\w'=w:=by
 go_enter Tryz.func77,Tryz.ntmps77;go_wp2;refine wp_loop_rounds 1 ?_;rw [rounds_succ];go_wp2;go_ret;exact ⟨rfl,rfl⟩
theorem Ax (B:Nat)(id:Int)(w:World)(h:w.cell? ⟨B,29,none⟩=some (.slice ao 0 c)) :
  Calls Tryz.prog 90 #[.pointer (some ⟨B,0,none⟩),.int .i64 id] w fun en w'=>en=.returned (.tuple #[.int .i64 id,.bool true])/\w'=w:=by
 go_enter Tryz.func90,Tryz.ntmps90;go_wp2;refine wp_loop_rounds 1 ?_;rw [rounds_succ];go_wp2
 go_ret2
 exact ⟨rfl,rfl⟩
theorem Ay (B:Nat)(id t:Int)(w:World)(h:w.cell? ⟨B,29,none⟩=some (.slice ao 0 c)) :
  Calls Tryz.prog 103 #[.pointer (some ⟨B,0,none⟩),.int .i64 id,.int .i64 t] w fun en w'=>en=.returned (.int .i64 id)/\w'=w:=by
 go_enter Tryz.func103,Tryz.ntmps103;go_wp2;refine wp_loop_rounds 1 ?_;rw [rounds_succ];go_wp2;go_ret;exact ⟨rfl,rfl⟩
theorem nH (B:Nat)(w:World)(h:w.cell? ⟨B,32,none⟩=some (.slice ao 0 c)) :
  Calls Tryz.prog 65 #[.pointer (some ⟨B,0,none⟩)] w fun en w'=>en=.returned (.bool true)/\w'=w:=by
 go_enter Tryz.func65,Tryz.ntmps65;go_wp2;refine wp_loop_rounds 1 ?_;rw [rounds_succ];go_wp2;go_ret;exact ⟨rfl,rfl⟩
theorem vV (B:Nat)(id:Int)(w:World)(h:w.cell? ⟨B,32,none⟩=some (.slice ao 0 c)) :
  Calls Tryz.prog 78 #[.pointer (some ⟨B,0,none⟩),.int .i64 id] w fun en w'=>en=.returned (.int .i64 id)/\w'=w:=by
 go_enter Tryz.func78,Tryz.ntmps78;go_wp2;refine wp_loop_rounds 1 ?_;rw [rounds_succ];go_wp2;go_ret;exact ⟨rfl,rfl⟩
theorem xU (B:Nat)(id:Int)(w:World)(h:w.cell? ⟨B,32,none⟩=some (.slice ao 0 c)) :
  Calls Tryz.prog 91 #[.pointer (some ⟨B,0,none⟩),.int .i64 id] w fun en w'=>en=.returned (.tuple #[.int .i64 id,.bool true])/\w'=w:=by
 go_enter Tryz.func91,Tryz.ntmps91;go_wp2;refine wp_loop_rounds 1 ?_;rw [rounds_succ];go_wp2
 go_ret2
 exact ⟨rfl,rfl⟩
theorem xV (B:Nat)(id t:Int)(w:World)(h:w.cell? ⟨B,32,none⟩=some (.slice ao 0 c)) :
  Calls Tryz.prog 104 #[.pointer (some ⟨B,0,none⟩),.int .i64 id,.int .i64 t] w fun en w'=>en=.returned (.int .i64 id)/\w'=w:=by
 go_enter Tryz.func104,Tryz.ntmps104;go_wp2;refine wp_loop_rounds 1 ?_;rw [rounds_succ];go_wp2;go_ret;exact ⟨rfl,rfl⟩
theorem rE (B:Nat)(w:World)(h:w.cell? ⟨B,35,none⟩=some (.slice ao 0 c)) :
  Calls Tryz.prog 66 #[.pointer (some ⟨B,0,none⟩)] w fun en w'=>en=.returned (.bool true)/\w'=w:=by
 go_enter Tryz.func66,Tryz.ntmps66;go_wp2;refine wp_loop_rounds 1 ?_;rw [rounds_succ];go_wp2;go_ret;exact ⟨rfl,rfl⟩
theorem Az (B:Nat)(id:Int)(w:World)(h:w.cell? ⟨B,35,none⟩=some (.slice ao 0 c)) :
  Calls Tryz.prog 79 #[.pointer (some ⟨B,0,none⟩),.int .i64 id] w fun en w'=>en=.returned (.int .i64 id)/\w'=w:=by
 go_enter Tryz.func79,Tryz.ntmps79;go_wp2;refine wp_loop_rounds 1 ?_;rw [rounds_succ];go_wp2;go_ret;exact ⟨rfl,rfl⟩
theorem DL (B:Nat)(id:Int)(w:World)(h:w.cell? ⟨B,35,none⟩=some (.slice ao 0 c)) :
  Calls Tryz.prog 92 #[.pointer (some ⟨B,0,none⟩),.int .i64 id] w fun en w'=>en=.returned (.tuple #[.int .i64 id,.bool true])/\w'=w:=by
 go_enter Tryz.func92,Tryz.ntmps92;go_wp2;refine wp_loop_rounds 1 ?_;rw [rounds_succ];go_wp2
 go_ret2
 exact ⟨rfl,rfl⟩
theorem DM (B:Nat)(id t:Int)(w:World)(h:w.cell? ⟨B,35,none⟩=some (.slice ao 0 c)) :
  Calls Tryz.prog 105 #[.pointer (some ⟨B,0,none⟩),.int .i64 id,.int .i64 t] w fun en w'=>en=.returned (.int .i64 id)/\w'=w:=by
 go_enter Tryz.func105,Tryz.ntmps105;go_wp2;refine wp_loop_rounds 1 ?_;rw [rounds_succ];go_wp2;go_ret;exact ⟨rfl,rfl⟩
theorem vW (B:Nat)(w:World)(h:w.cell? ⟨B,38,none⟩=some (.slice ao 0 c)) :
  Calls Tryz.prog 67 #[.pointer (some ⟨B,0,none⟩)] w fun en w'=>en=.returned (.bool true)/\w'=w:=by
 go_enter Tryz.func67,Tryz.ntmps67;go_wp2;refine wp_loop_rounds 1 ?_;rw [rounds_succ];go_wp2;go_ret;exact ⟨rfl,rfl⟩
theorem IE (B:Nat)(id:Int)(w:World)(h:w.cell? ⟨B,38,none⟩=some (.slice ao 0 c)) :
  Calls Tryz.prog 80 #[.pointer (some ⟨B,0,none⟩),.int .i64 id] w fun en w'=>en=.returned (.int .i64 id)/\w'=w:=by
 go_enter Tryz.func80,Tryz.ntmps80;go_wp2;refine wp_loop_rounds 1 ?_;rw [rounds_succ];go_wp2;go_ret;exact ⟨rfl,rfl⟩
theorem Mn (B:Nat)(id:Int)(w:World)(h:w.cell? ⟨B,38,none⟩=some (.slice ao 0 c)) :
  Calls Tryz.prog 93 #[.pointer (some ⟨B,0,none⟩),.int .i64 id] w fun en w'=>en=.returned (.tuple #[.int .i64 id,.bool true])/\w'=w:=by
 go_enter Tryz.func93,Tryz.ntmps93;go_wp2;refine wp_loop_rounds 1 ?_;rw [rounds_succ];go_wp2
 go_ret2
 exact ⟨rfl,rfl⟩
theorem Mo (B:Nat)(id t:Int)(w:World)(h:w.cell? ⟨B,38,none⟩=some (.slice ao 0 c)) :
  Calls Tryz.prog 106 #[.pointer (some ⟨B,0,none⟩),.int .i64 id,.int .i64 t] w fun en w'=>en=.returned (.int .i64 id)/\w'=w:=by
 go_enter Tryz.func106,Tryz.ntmps106;go_wp2;refine wp_loop_rounds 1 ?_;rw [rounds_succ];go_wp2;go_ret;exact ⟨rfl,rfl⟩
end Go.Proofs.YtgldkdbkaachkaaGreatDoor
