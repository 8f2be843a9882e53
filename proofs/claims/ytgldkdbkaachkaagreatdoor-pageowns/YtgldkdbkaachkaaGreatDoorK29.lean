import Derived.Shelf.Strconv.Itoa3
import Derived.Test.YtgldkdbkaachkaaGreatDoorProg
import Derived.Test.YtgldkdbkaachkaaGreatDoorK21
import Derived.Lib.ConvBytes
import Derived.KernelRfl
import Derived.Deep.Cut
set_option maxRecDepth 100000
set_option maxHeartbeats 400000
namespace Go.Proofs.YtgldkdbkaachkaaGreatDoor
open Go.Shelf
def zI:Go.Shelf.Ren:=⟨fun | 171=>195 | 243=>225 | 246=>268 | 283=>287 | 284=>288 | 285=>289 | 286=>290 | 129=>273 | 317=>293 | 318=>294 | 319=>295 | 320=>296 | 337=>298 | 338=>299 | n=>n,fun | 3=>3 | 9=>9 | 2=>2 | 4=>4 | 171=>274 | 0=>0 | 53=>110 | 37=>25 | 5=>5 | 173=>276 | 212=>280 | 51=>96 | 20=>20 | 213=>281 | 46=>121 | 232=>284 | 233=>285 | n=>n,fun | 17=>3 | 18=>5 | 19=>6 | n=>n⟩
theorem Pa:Go.Proofs.LaysM.n171 Tryz.prog zI:={
 mixed:=by kernel_rfl
 f129:=Tryz.func273.trans (congrArg some (by kernel_rfl))
 f171:=Tryz.func195.trans (congrArg some (by kernel_rfl))
 f243:=Tryz.func225.trans (congrArg some (by kernel_rfl))
 f246:=Tryz.func268.trans (congrArg some (by kernel_rfl))
 f283:=Tryz.func287.trans (congrArg some (by kernel_rfl))
 f284:=Tryz.func288.trans (congrArg some (by kernel_rfl))
 f285:=Tryz.func289.trans (congrArg some (by kernel_rfl))
 f286:=Tryz.func290.trans (congrArg some (by kernel_rfl))
 f317:=Tryz.func293.trans (congrArg some (by kernel_rfl))
 f318:=Tryz.func294.trans (congrArg some (by kernel_rfl))
 f319:=Tryz.func295.trans (congrArg some (by kernel_rfl))
 f320:=Tryz.func296.trans (congrArg some (by kernel_rfl))
 f337:=Tryz.func298.trans (congrArg some (by kernel_rfl))
 f338:=Tryz.func299.trans (congrArg some (by kernel_rfl))
 t0:=Tryz.underlying0
 a0:=Tryz.isAgg0
 z0:=Tryz.sizeOf0
 v0:=Tryz.zeroValue0
 t2:=Tryz.underlying2
 a2:=Tryz.isAgg2
 z2:=Tryz.sizeOf2
 v2:=Tryz.zeroValue2
 t3:=Tryz.underlying3
 a3:=Tryz.isAgg3
 z3:=Tryz.sizeOf3
 v3:=Tryz.zeroValue3
 t4:=Tryz.underlying4
 a4:=Tryz.isAgg4
 z4:=Tryz.sizeOf4
 v4:=Tryz.zeroValue4
 t5:=Tryz.underlying5
 a5:=Tryz.isAgg5
 z5:=Tryz.sizeOf5
 v5:=Tryz.zeroValue5
 t9:=Tryz.underlying9
 a9:=Tryz.isAgg9
 z9:=Tryz.sizeOf9
 v9:=Tryz.zeroValue9
 t20:=Tryz.underlying20
 a20:=Tryz.isAgg20
 z20:=Tryz.sizeOf20
 v20:=Tryz.zeroValue20
 t37:=Tryz.underlying25
 a37:=Tryz.isAgg25
 z37:=Tryz.sizeOf25
 v37:=Tryz.zeroValue25
 t46:=Tryz.underlying121
 a46:=Tryz.isAgg121
 z46:=Tryz.sizeOf121
 v46:=Tryz.zeroValue121
 t51:=Tryz.underlying96
 a51:=Tryz.isAgg96
 z51:=Tryz.sizeOf96
 v51:=Tryz.zeroValue96
 t53:=Tryz.underlying110
 a53:=Tryz.isAgg110
 z53:=Tryz.sizeOf110
 v53:=Tryz.zeroValue110
 t171:=Tryz.underlying274
 a171:=Tryz.isAgg274
 z171:=Tryz.sizeOf274
 v171:=Tryz.zeroValue274
 t173:=Tryz.underlying276
 a173:=Tryz.isAgg276
 z173:=Tryz.sizeOf276
 v173:=Tryz.zeroValue276
 t212:=Tryz.underlying280
 a212:=Tryz.isAgg280
 z212:=Tryz.sizeOf280
 v212:=Tryz.zeroValue280
 t213:=Tryz.underlying281
 a213:=Tryz.isAgg281
 z213:=Tryz.sizeOf281
 t232:=Tryz.underlying284
 a232:=Tryz.isAgg284
 z232:=Tryz.sizeOf284
 v232:=Tryz.zeroValue284
 t233:=Tryz.underlying285
 a233:=Tryz.isAgg285
 z233:=Tryz.sizeOf285
 v233:=Tryz.zeroValue285
 g17:=by kernel_rfl
 g18:=by kernel_rfl
 g19:=by kernel_rfl
 i0:=by kernel_rfl
 i2:=by kernel_rfl
 i3:=by kernel_rfl
 i4:=by kernel_rfl
 i5:=by kernel_rfl
 i9:=by kernel_rfl
 i20:=by kernel_rfl
 i37:=by kernel_rfl
 i46:=by kernel_rfl
 i51:=by kernel_rfl
 i53:=by kernel_rfl
 i171:=by kernel_rfl
 i173:=by kernel_rfl
 i212:=by kernel_rfl
 i232:=by kernel_rfl
 i233:=by kernel_rfl
 m17:=by kernel_rfl
 m18:=by kernel_rfl
 m19:=by kernel_rfl }
theorem KV (n:Int)(h0:-9223372036854775808<=n)(h1:n<=9223372036854775807)(w:World)(htab:Lib.TabIs Tryz.prog w "internal/strconv.uint64pow10" .u64 Lib.pow10Tab) :
  Calls Tryz.prog 195 #[.int .i64 n] w fun e w'=>e=.returned (.string ⟨(Lib.itoa n).toArray⟩)/\∃ k os,w'=Sort.grow (w.drewN k) os:=Any.strconv_Itoa Pa n h0 h1 w htab
end Go.Proofs.YtgldkdbkaachkaaGreatDoor
namespace Go.Proofs.YtgldkdbkaachkaaGreatDoor
open Go.RowKit
def Tz (w:World):Prop:=Lib.TabIs Tryz.prog w "internal/strconv.uint64pow10" .u64 Lib.pow10Tab
theorem vt:Tryz.prog.globalNamed "internal/strconv.uint64pow10"=some 3:=by kernel_rfl
theorem Tz.lt {w:World}(h:Tz w):3<w.heap.size:=by
 unfold Tz Lib.TabIs World.var? at h;rw [vt] at h;simp only [Option.bind_some] at h;rcases Nat.lt_or_ge 3 w.heap.size with h' | h'
 ·exact h'
 ·simp [Array.getElem?_eq_none h'] at h
theorem Tz.kept {w w':World}{row:Option Nat}(h:Tz w)(hg:w.grownBy w' row)(hr:some 3≠row):Tz w':=by
 have hb:=hg.block 3 h.lt hr;unfold Tz Lib.TabIs World.var? at h ⊢;rw [vt] at h ⊢;simp only [Option.bind_some] at h ⊢;rw [hb];exact h
theorem Tz.ae {w w':World}(h:Tz w)(hg:w.grownBy w' none):Tz w':=h.kept hg (by simp)
def CW (ps:Int)(id j:Nat):List Int:=(Lib.itoa ((id:Int)*1000+2*(j:Int)+ps)).map fun b=>(b.toNat:Int)
def gC (F:Int->Nat->Nat->Value):eP:=⟨11,1,25,23,F⟩
def CX (F:Int->Nat->Nat->Value)(ps:Int)(id x:Nat)(v:Value):Int->Nat->Nat->Value:=fun p i y=>if p=ps/\i=id/\y=x then v else F p i y
theorem vu (F:Int->Nat->Nat->Value)(ps:Int)(id x:Nat)(v:Value):CX F ps id x v ps id x=v:=by unfold CX;rw [if_pos ⟨rfl,rfl,rfl⟩]
theorem FI (F:Int->Nat->Nat->Value)(ps p:Int){id i:Nat}(x y:Nat)(v:Value)(h:i≠id):CX F ps id x v p i y=F p i y:=by unfold CX;rw [if_neg (fun e=>h e.2.1)]
theorem Pb (F:Int->Nat->Nat->Value)(ps p:Int)(id i:Nat){x y:Nat}(v:Value)(h:y≠x):CX F ps id x v p i y=F p i y:=by unfold CX;rw [if_neg (fun e=>h e.2.2)]
theorem Kc.Xo {F F':Int->Nat->Nat->Value}{w:World}{B:Nat}{ps:Int}{vb:Value}{r c:Nat}{L:List au}(h:Kc (gC F) w B ps vb r c L):Kc (gC F') w B ps vb r c L :=
 ⟨h.pass,h.lists,h.row,h.ok,h.apart,h.many⟩
theorem lU.Xo {F F':Int->Nat->Nat->Value}{I:World->Prop}{w:World}{B:Nat}{ps:Int}{vb:Value}{r c:Nat}{L:List au}{ag i j:Nat}(h:lU (gC F) I w B ps vb r c L ag i j)
  (h1:∀ k s x,k<i->L[k]?=some s->x<s.N->F' ps (ag+k+1) x=F ps (ag+k+1) x) (h2:∀ x,x<j->F' ps (ag+i+1) x=F ps (ag+i+1) x):lU (gC F') I w B ps vb r c L ag i j :=
 ⟨h.inv,h.bc.Xo,fun k s hk hs x hx=>by
  show _=some (F' ps (ag+k+1) x)
  rw [h1 k s x hk hs hx];exact h.done k s hk hs x hx,fun s hs x hx=>by
  show _=some (F' ps (ag+i+1) x)
  rw [h2 x hx];exact h.part s hs x hx⟩
theorem Gs.Xo {F F':Int->Nat->Nat->Value}{Q:Nat->Prop}{H0:Nat}{I:World->Prop}{w:World}{B:Nat}{ps:Int}{vb vg:Value}{r c base ag:Nat}{L M:List au}{tn:Nat->Nat}(h:Gs (gC F) Q H0 I w B ps vb vg r c base ag L M tn)
  (h1:∀ k s x,L[k]?=some s->x<s.N->F' ps (ag+k+1) x=F ps (ag+k+1) x) (h2:∀ k m x,M[k]?=some m->x<m.N->F' ps (ag+k+1) x=F ps (ag+k+1) x):Gs (gC F') Q H0 I w B ps vb vg r c base ag L M tn :=
 ⟨h.inv,h.bc.Xo,h.gl,h.gz,h.own,h.old,h.rB,h.qn,h.qv,h.qm,h.each,h.He,fun k s hs x hx=>by
  show _=some (F' ps (ag+k+1) x)
  rw [h1 k s x hs hx];exact h.lm k s hs x hx,fun k m hm x hx=>by
  show _=some (F' ps (ag+k+1) x)
  rw [h2 k m x hm hx];exact h.mm k m hm x hx⟩
def Tv (w:World)(S:Nat->Prop)(ps:Int)(id x:Nat)(v:Value):Prop:=∃ b n c,v=.slice (some ⟨b,0,none⟩) n c/\S b/\b<w.heap.size/\ai w (some ⟨b,0,none⟩) n c (CW ps id x)
theorem Tv.kept {w w':World}{S:Nat->Prop}{ps:Int}{id x:Nat}{v:Value}{row:Option Nat}(h:Tv w S ps id x v)(hg:w.grownBy w' row)(hr:∀ i,row=some i->¬ S i):Tv w' S ps id x v:=by
 obtain ⟨b,n,c,e,hs,hb,hy⟩:=h;exact ⟨b,n,c,e,hs,Nat.lt_of_lt_of_le hb hg.size,hy.kept hg (fun a ha _ e'=>by obtain rfl:=Option.some.inj ha;exact hr b e'.symm hs)⟩
theorem Tv.mono {w:World}{S S':Nat->Prop}{ps:Int}{id x:Nat}{v:Value}(h:Tv w S ps id x v)(hs:∀ b,S b->S' b):Tv w S' ps id x v:=by
 obtain ⟨b,n,c,e,h1,hb,hy⟩:=h;exact ⟨b,n,c,e,hs b h1,hb,hy⟩
def Ak (w:World)(F:Int->Nat->Nat->Value)(S:Nat->Prop)(ps:Int)(ag:Nat)(nk:Nat->Nat):Prop:=∀ k x,x<nk k->Tv w S ps (ag+k+1) x (F ps (ag+k+1) x)
theorem Ak.kept {w w':World}{F:Int->Nat->Nat->Value}{S:Nat->Prop}{ps:Int}{ag:Nat}{nk:Nat->Nat}{row:Option Nat}(h:Ak w F S ps ag nk)(hg:w.grownBy w' row)(hr:∀ i,row=some i->¬ S i):Ak w' F S ps ag nk:=fun k x hx=>(h k x hx).kept hg hr
theorem Ak.ae {w w':World}{F:Int->Nat->Nat->Value}{S:Nat->Prop}{ps:Int}{ag:Nat}{nk:Nat->Nat}(h:Ak w F S ps ag nk)(hg:w.grownBy w' none):Ak w' F S ps ag nk:=h.kept hg (by simp)
theorem Ak.up {w:World}{F:Int->Nat->Nat->Value}{S:Nat->Prop}{ps:Int}{ag:Nat}{nk YD:Nat->Nat}(h:Ak w F S ps ag nk){i x:Nat}{v:Value}(hv:Tv w S ps (ag+i+1) x v)(hn:∀ k y,y<YD k->(k=i/\y=x)∨(y<nk k/\¬ (k=i/\y=x))):Ak w (CX F ps (ag+i+1) x v) S ps ag YD:=fun k y hy=>by
 rcases hn k y hy with ⟨rfl,rfl⟩ | ⟨h1,h2⟩
 ·rw [vu];exact hv
 ·have e:CX F ps (ag+i+1) x v ps (ag+k+1) y=F ps (ag+k+1) y:=by
   unfold CX;rw [if_neg (fun e=>h2 ⟨by omega,e.2.2⟩)]
  rw [e];exact h k y h1
theorem Ak.mono {w:World}{F:Int->Nat->Nat->Value}{S S':Nat->Prop}{ps:Int}{ag:Nat}{nk YD:Nat->Nat}(h:Ak w F S ps ag nk)(hs:∀ b,S b->S' b)(hn:∀ k,YD k<=nk k):Ak w F S' ps ag YD:=fun k x hx=>(h k x (Nat.lt_of_lt_of_le hx (hn k))).mono hs
theorem FJ (w:World)(k:Nat)(os:Array Obj):w.grownBy (Sort.grow (w.drewN k) os) none :=
 ⟨rfl,rfl,rfl,by simp [Sort.grow],fun i hi _=>by
  show (w.heap++os)[i]?=_
  rw [Array.getElem?_append_left hi]⟩
theorem FK (B:Nat)(ps:Int)(id j:Nat)(dN jI:Int)(w:World)(h:w.cell? ⟨B,1,none⟩=some (.int .i64 ps))(hp:0<=ps/\ps<=1)(hi:id<=1099511627776)(hj:j<=1099511627776)(e1:dN=(id:Int))(e2:jI=(j:Int))(ht:Tz w) :
  Calls Tryz.prog 148 #[.pointer (some ⟨B,0,none⟩),.int .i64 dN,.int .i64 jI] w fun en w'=>en=.returned (.string ⟨(Lib.itoa ((id:Int)*1000+2*(j:Int)+ps)).toArray⟩)/\w.grownBy w' none:=by
 subst e1 e2;have nh:=hp.1;have IB:=hp.2;have HT:=hJ ht;clear ht;go_enter Tryz.func148,Tryz.ntmps148
 go_wp2_with fail
 refine (KV ((id:Int)*1000+2*(j:Int)+ps) (by omega) (by omega) _ HT.out).mono ?_;rintro en w1 ⟨rfl,k,os,hw⟩;have HG:Hid (w.grownBy w1 none):=by rw [hw];exact FJ w k os
 clear hw;go_wp2;go_ret;exact ⟨rfl,HG.out⟩
theorem zJ (w:World)(e:TypeId)(s:ByteArray):w.grownBy (Lib.bytesWorld w e s) none :=
 ⟨rfl,rfl,rfl,by rw [Lib.bytesWorld_size];omega,fun i hi _=>Lib.bytesWorld_at_old w e s i hi⟩
theorem FL (w:World)(l:List UInt8)(n c:Nat)(hn:n=l.length):ai (Lib.bytesWorld w 5 ⟨l.toArray⟩) (some ⟨w.heap.size,0,none⟩) n c (l.map fun b=>(b.toNat:Int)):=by
 subst hn;refine ⟨by simp,fun e=>by simp at e,fun a ha j u hu=>?_⟩;obtain rfl:=Option.some.inj ha;have hj:j<l.length:=by have:=(List.getElem?_eq_some_iff.1 hu).1;simpa using this
 rw [Addr.add_lit,Nat.zero_add];have:=Lib.bytesWorld_cell w 5 ⟨l.toArray⟩ j (by show j<l.toArray.size;simpa using hj);rw [this];rw [List.getElem?_map,List.getElem?_map,List.getElem?_eq_getElem hj] at hu;simp only [Option.map_some,Option.some.injEq] at hu;rw [<- hu];simp [List.getD,List.getElem?_eq_getElem hj]
theorem ng (B:Nat)(ps:Int)(id j:Nat)(dN jI:Int)(w:World)(h:w.cell? ⟨B,1,none⟩=some (.int .i64 ps))(hp:0<=ps/\ps<=1)(hi:id<=1099511627776)(hj:j<=1099511627776)(e1:dN=(id:Int))(e2:jI=(j:Int))(ht:Tz w) :
  Calls Tryz.prog 149 #[.pointer (some ⟨B,0,none⟩),.int .i64 dN,.int .i64 jI] w fun en w'=>(∃ b n c,en=.returned (.slice (some ⟨b,0,none⟩) n c)/\w.heap.size<=b/\b<w'.heap.size/\ai w' (some ⟨b,0,none⟩) n c (CW ps id j))/\w.grownBy w' none:=by
 subst e1 e2;have HT:=hJ ht;have HH:=hJ h;clear ht h;go_enter Tryz.func149,Tryz.ntmps149
 go_wp2_with fail
 refine (FK B ps id j _ _ _ HH.out hp hi hj rfl rfl HT.out).mono ?_;rintro en w1 ⟨rfl,hg⟩;have HB:Hid (∀ n c,n=(Lib.itoa ((id:Int)*1000+2*(j:Int)+ps)).length->ai (Lib.bytesWorld w1 5 ⟨(Lib.itoa ((id:Int)*1000+2*(j:Int)+ps)).toArray⟩) (some ⟨w1.heap.size,0,none⟩) n c (CW ps id j)):=fun n c hn=>FL w1 _ n c hn
 have HL:Hid ((⟨(Lib.itoa ((id:Int)*1000+2*(j:Int)+ps)).toArray⟩:ByteArray).size=(Lib.itoa ((id:Int)*1000+2*(j:Int)+ps)).length):=by
  show (Lib.itoa ((id:Int)*1000+2*(j:Int)+ps)).toArray.size=_
  simp
 generalize (⟨(Lib.itoa ((id:Int)*1000+2*(j:Int)+ps)).toArray⟩:ByteArray)=s at *;have hcv:=Lib.run_convert_string_bytes (P:=Tryz.prog) w1 9 25 5 s (u:=.string) Tryz.underlying9 Tryz.underlying25 Tryz.underlying5;have HG:=hJ (gQ hg (zJ w1 5 s));have HS:=hJ hg.size;have HZ:=hJ (Lib.bytesWorld_size w1 5 s);generalize Lib.bytesWorld w1 5 s=W2 at *;generalize grownCap w1 s.size 0 5=cap at *;clear hg;go_wp2;go_ret;exact ⟨⟨_,_,_,rfl,HS.out,by rw [HZ.out];omega,HB.out _ _ HL.out⟩,HG.out⟩
end Go.Proofs.YtgldkdbkaachkaaGreatDoor
