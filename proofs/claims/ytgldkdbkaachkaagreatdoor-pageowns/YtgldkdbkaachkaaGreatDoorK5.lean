import Derived.Lib.Bytealg
import Derived.Lib.BytesEntry
import Derived.Test.YtgldkdbkaachkaaGreatDoorK4
import Derived.Lib.SliceRun
set_option maxRecDepth 100000
set_option maxHeartbeats 2000000
namespace Go.Proofs.YtgldkdbkaachkaaGreatDoor
open Go.RowKit
variable {P a b bs t xs zs:List Int}{cap g i k n p x:Nat}{ao:Option Addr}{w w':World}
def cL:List Int->List Int->Int
 | [],[]=>0
 | [],_::_=>-1
 | _::_,[]=>1
 | a::al,b::bl=>if a<b then -1 else if b<a then 1 else cL al bl
def gy:List Int->List Int->Nat
 | a::al,b::bl=>if a=b then gy al bl+1 else 0
 | _,_=>0
theorem lA (b:List Int):gy [] b=0:=by unfold gy;rfl
theorem iL (a:List Int):gy a []=0:=by cases a <;> rfl
theorem fP (a b:Int)(al bl:List Int):gy (a::al) (b::bl)=if a=b then gy al bl+1 else 0:=by rw [gy]
theorem AA (a b:Int)(al bl:List Int):cL (a::al) (b::bl)=if a<b then -1 else if b<a then 1 else cL al bl:=by rw [cL]
theorem Gn:∀ (a b:List Int),gy a b<=a.length
 | [],b=>by rw [lA];exact Nat.zero_le _
 | a::al,[]=>by rw [iL];exact Nat.zero_le _
 | a::al,b::bl=>by
  rw [fP];split
  ·have:=Gn al bl;simp;exact this
  ·exact Nat.zero_le _
theorem sy:∀ (a b:List Int),gy a b<=b.length
 | [],b=>by rw [lA];exact Nat.zero_le _
 | a::al,[]=>by rw [iL];exact Nat.zero_le _
 | a::al,b::bl=>by
  rw [fP];split
  ·have:=sy al bl;simp;exact this
  ·exact Nat.zero_le _
theorem drop_cons (h:i<a.length):a.drop i=a.getD i 0::a.drop (i+1):=by
 rw [List.drop_eq_getElem_cons h];simp [List.getD,List.getElem?_eq_getElem h]
theorem Mp (ha:i<a.length)(hb:i<b.length)(h:a.getD i 0=b.getD i 0):gy (a.drop i) (b.drop i)=gy (a.drop (i+1)) (b.drop (i+1))+1:=by
 rw [drop_cons ha,drop_cons hb,fP,if_pos h]
theorem Gp (ha:i<a.length)(hb:i<b.length)(h:a.getD i 0≠b.getD i 0):gy (a.drop i) (b.drop i)=0:=by
 rw [drop_cons ha,drop_cons hb,fP,if_neg h]
theorem Gq {a b:List Int}{i:Nat}(h:a.length<=i∨b.length<=i):gy (a.drop i) (b.drop i)=0:=by
 rcases h with h | h
 ·rw [List.drop_of_length_le h,lA]
 ·rw [List.drop_of_length_le h,iL]
theorem AB:∀ (n:Nat) (a b:List Int),gy (a.take n) b=min n (gy a b)
 | 0,a,b=>by rw [List.take_zero,lA];omega
 | n+1,[],b=>by rw [List.take_nil,lA];omega
 | n+1,a::al,[]=>by rw [iL,iL];omega
 | n+1,a::al,b::bl=>by
  rw [List.take_succ_cons,fP,fP]
  split
  ·rw [AB n al bl];omega
  ·omega
def bw (f:List Int)(n:Nat)(l:List (List Int)):Nat:=l.foldl (fun n s=>min n (gy f s)) n
theorem qz (f:List Int)(n:Nat)(s:List Int)(l:List (List Int)):bw f n (s::l)=bw f (min n (gy f s)) l:=rfl
theorem fF (f:List Int):∀ (l:List (List Int)) (n:Nat),bw f n l<=n
 | [],n=>Nat.le_refl _
 | s::l,n=>by rw [qz];have:=fF f l (min n (gy f s));omega
theorem wT:∀ {a b:List Int},Bt a->Bt b->Lib.compareBytes (Lib.bytesOf a) (Lib.bytesOf b)=cL a b
 | [],[],_,_=>rfl
 | [],_::_,_,_=>rfl
 | _::_,[],_,_=>rfl
 | a::al,b::bl,ha,hb=>by
  have h1:=ha a (List.mem_cons_self ..);have h2:=hb b (List.mem_cons_self ..);have ih:=wT (a:=al) (b:=bl) (fun z hz=>ha z (List.mem_cons_of_mem _ hz)) (fun z hz=>hb z (List.mem_cons_of_mem _ hz))
  have e1:(a.toNat.toUInt8<b.toNat.toUInt8)↔a<b:=by
   rw [UInt8.lt_iff_toNat_lt];simp;omega
  have e2:(b.toNat.toUInt8<a.toNat.toUInt8)↔b<a:=by
   rw [UInt8.lt_iff_toNat_lt];simp;omega
  show (if a.toNat.toUInt8<b.toNat.toUInt8 then (-1:Int) else if b.toNat.toUInt8<a.toNat.toUInt8 then 1 else Lib.compareBytes (Lib.bytesOf al) (Lib.bytesOf bl))=_
  rw [AA,ih];simp only [e1,e2]
theorem AC {P:Program}(h:ai w ao n cap zs) :
  (Extern.Bytes.bytesOf (.slice ao n cap)).run P w=.ok ⟨(Lib.bytesOf zs).toArray⟩ w:=by
 cases ao with
 | none =>
  have:zs=[]:=List.length_eq_zero_iff.1 (h.len.trans (h.nil rfl).1);subst this
  rfl
 | some ad =>
  have k:=Lib.run_loadBytesX (P:=P) w zs ad .empty (fun j x hj=>h.cells ad rfl j (.int .u8 x) (by rw [List.getElem?_map,hj];rfl));rw [h.len] at k
  have he:(⟨ByteArray.empty.data++(Lib.bytesOf zs).toArray⟩:ByteArray)=⟨(Lib.bytesOf zs).toArray⟩:=by
   apply ByteArray.ext
   show (#[]:Array UInt8)++(Lib.bytesOf zs).toArray=(Lib.bytesOf zs).toArray
   simp
  rw [he] at k;exact k
theorem tG {P:Program}{bo:Option Addr}{m c d:Nat}{za zb:List Int}(ha:ai w ao n c za)(hb:ai w bo m d zb)(ba:Bt za)(bb:Bt zb) :
  (Extern.BytealgCompare.compare #[.slice ao n c,.slice bo m d]).run P w=.ok (.int .i64 (cL za zb)) w:=by
 change Sem.run P (do pure (goInt (Extern.BytealgCompare.cmp (<- Extern.Bytes.bytesOf (.slice ao n c)) (<- Extern.Bytes.bytesOf (.slice bo m d))))) w=_;simp only [Sem.run_bind,Sem.run_pure,Result.andThen,AC ha,AC hb];rw [Lib.cmp_eq,show (⟨(Lib.bytesOf za).toArray⟩:ByteArray).data.toList=Lib.bytesOf za from rfl,show (⟨(Lib.bytesOf zb).toArray⟩:ByteArray).data.toList=Lib.bytesOf zb from rfl,wT ba bb]
 rfl
theorem pI (ao bo:Option Addr)(n m c d:Nat)(za zb:List Int)(w:World)(ha:ai w ao n c za)(hb:ai w bo m d zb)(ba:Bt za)(bb:Bt zb) :
  Calls Tryz.prog 291 #[.slice ao n c,.slice bo m d] w fun en w'=>en=.returned (.int .i64 (cL za zb))/\w'=w:=by
 have hr:=tG (P:=Tryz.prog) ha hb ba bb;clear ha hb;go_enter Tryz.func291,Tryz.ntmps291;go_wp2;rw [run_callFunc_extern Tryz.func297 (by kernel_rfl) (by kernel_rfl) (by kernel_rfl) (e:=Extern.BytealgCompare.compare) (by kernel_rfl),hr];simp only [Result.andThen];rw [Oper.upon_value];go_wp2;go_ret;exact ⟨rfl,rfl⟩
theorem qA (ao bo:Option Addr)(n m c d:Nat)(za zb:List Int)(w:World)(ha:ai w ao n c za)(hb:ai w bo m d zb)(ba:Bt za)(bb:Bt zb) :
  Calls Tryz.prog 272 #[.slice ao n c,.slice bo m d] w fun en w'=>en=.returned (.int .i64 (cL za zb))/\w'=w:=by
 have HA:=hJ ha;have HB:=hJ hb;clear ha hb;go_enter Tryz.func272,Tryz.ntmps272
 go_wp2_with fail
 refine (pI ao bo n m c d za zb w HA.out HB.out ba bb).mono ?_;rintro en w' ⟨rfl,rfl⟩;go_wp2;go_ret;exact ⟨rfl,rfl⟩
theorem ct {x y:Int}(h:x=y):Ending.returned (Value.int IntKind.i64 x)=.returned (.int .i64 y):=by rw [h]
def Dr (w w':World):Prop:=∃ q,w'=w.drewN q
theorem Dr.refl (w:World):Dr w w:=⟨0,rfl⟩
theorem Dr.more (h:Dr w w')(n:Nat):Dr w (w'.drewN n):=by obtain ⟨q,rfl⟩:=h;exact ⟨q+n,World.drewN_drewN ..⟩
theorem Dr.trans {a b c:World}(h:Dr a b)(k:Dr b c):Dr a c:=by obtain ⟨n,rfl⟩:=k;exact h.more n
theorem Dr.qt (h:Dr w w'):Qt w w':=by obtain ⟨q,rfl⟩:=h;exact Qt.drewN w q
theorem Dr.cell (h:Dr w w')(a:Addr):w'.cell? a=w.cell? a:=h.qt.cell a
theorem tH (ao bo:Option Addr)(n m c d:Nat)(za zb:List Int)(w:World)(ha:ai w ao n c za)(hb:ai w bo m d zb)(hn:n<=9223372036854775807)(hm:m<=9223372036854775807) :
  Calls Tryz.prog 283 #[.slice ao n c,.slice bo m d] w fun en w'=>en=.returned (.int .i64 ((gy za zb:Nat):Int))/\Dr w w':=by
 have jQ:=ha.len;have hl2:=hb.len;have HA:=hJ ha;have HB:=hJ hb;clear ha hb;go_enter Tryz.func283,Tryz.ntmps283;go_wp2
 all_goals
  go_loopw [6,13] (fun _ si wr=>∃ i:Nat,i<=n/\i<=m/\si=.int .i64 i/\gy (za.drop i) (zb.drop i)+i=gy za zb/\Dr w wr) (fun _ si _=>n - (intOf si).toNat)
  case atStart=>exact ⟨0,Nat.zero_le _,Nat.zero_le _,rfl,rfl,Dr.refl _⟩
  case round =>
   obtain ⟨i,hi,hj,rfl,he,hq⟩:=hrel;have HE:=hJ he;have HQ:=hJ hq;clear he hq
   by_cases hlt:i<n/\i<m
   ·obtain ⟨h1,h2⟩:=hlt
    obtain ⟨b1,o1,rfl,_,k1⟩:=HA.out.at (by omega);obtain ⟨b2,o2,rfl,_,k2⟩:=HB.out.at (by omega);have c1:=(HQ.out.cell _).trans (k1 i h1);have c2:=(HQ.out.cell _).trans (k2 i h2);have e1:Hid (za.getD i 0=zb.getD i 0->gy (za.drop i) (zb.drop i)=gy (za.drop (i+1)) (zb.drop (i+1))+1):=fun h=>Mp (by omega) (by omega) h
    have e2:Hid (za.getD i 0≠zb.getD i 0->gy (za.drop i) (zb.drop i)=0):=fun h=>Gp (by omega) (by omega) h
    have g1:(i:Int)<(n:Int):=by omega
    have g2:(i:Int)<(m:Int):=by omega
    have g0:(0:Int)<=(i:Int):=by omega
    clear k1 k2;generalize za.getD i 0=x at *;generalize zb.getD i 0=y at *
    by_cases Ua:x=y
    ·subst Ua
     have E1:=hJ (e1.out rfl);clear e1 e2;have hd:(x != x)=false:=by simp
     go_wp2
     go_quiet (fail)
     go_wp2;go_roundw
     case rel=>exact ⟨i+1,by omega,by omega,by go_num,by have:=E1.out;have:=HE.out;omega,HQ.out.more _⟩
     case measure=>simp [intOf];omega
    ·have hd:(x != y)=true:=by simpa using Ua
     go_wp2
     go_quiet (fail)
     go_wp2;go_ret;exact ⟨ct (by have:=e2.out Ua;have:=HE.out;omega),HQ.out.more _⟩
   ·have hend:=Gq (a:=za) (b:=zb) (i:=i) (by omega)
    have XQ:gy za zb=i:=by have:=HE.out;omega
    have HC:=hJ XQ;have hle:i=n∨i=m:=by omega
    clear XQ hend;have Qs:¬ ((i:Int)<(n:Int)/\(i:Int)<(m:Int)):=by omega
    go_wp2;go_ret;exact ⟨ct (by have:=HC.out;omega),HQ.out⟩
theorem AG {x y:Bool}(h:x=y):Ending.returned (Value.bool x)=.returned (.bool y):=by rw [h]
def valid (n:Nat):Bool:=decide (1<=n) && decide (n<=255)
def within (k lo hi:List Int):Bool:=decide (0<=cL k lo) && (hi.length==0 || decide (cL k hi<0))
theorem wU (ao:Option Addr)(n c:Nat)(w:World):Calls Tryz.prog 270 #[.slice ao n c] w fun en w'=>en=.returned (.bool (valid n))/\w'=w:=by
 have HV1:Hid (1<=n->decide ((n:Int)<=255)=valid n):=fun h=>by unfold valid;rw [decide_eq_true h,Bool.true_and];exact decide_eq_decide.2 (by omega)
 have VE:Hid (¬ 1<=n->false=valid n):=fun h=>by unfold valid;rw [decide_eq_false h];rfl
 by_cases h1:1<=n
 ·go_enter Tryz.func270,Tryz.ntmps270
  go_wp2;go_ret;exact ⟨AG (HV1.out h1),rfl⟩
 ·go_enter Tryz.func270,Tryz.ntmps270
  go_wp2;go_ret;exact ⟨AG (VE.out h1),rfl⟩
structure It where
 key:List Int
 val:List Int
 size:Int
 first:Int
def aG:It:=⟨[],[],0,0⟩
def pre:List It->Nat
 | []=>0
 | x::L=>bw x.key x.key.length (L.map It.key)
def lg (s:Int):Nat:=if s<0 then 0 else if 262144<s then 262144 else s.toNat
def tg (s:Int):Nat:=if 512<lg s then 2*lg s+1 else 2*lg s
def tl (s:Int):Nat:=if 512<lg s then 4 else lg s
def vl (n:Nat):Nat:=(ah n).length
def cl (p:Nat)(x:It):Nat:=vl (x.key.length - p)+(x.key.length - p)+vl (tg x.size)+tl x.size
def fZ (p:Nat):List It->Nat
 | []=>0
 | x::L=>2+cl p x+fZ p L
def size (L:List It):Nat:=3+vl (pre L)+pre L+fZ (pre L) L
def ws (x:It):Bool:=!(decide (1<=x.key.length) && decide (x.key.length<=255)) || decide (x.size<0) || decide (262144<x.size)
def wv (x:It):Bool:=if 512<x.size then decide (x.val.length≠0) || decide (x.first<2) || decide (524287<=x.first) else decide ((x.val.length:Int)≠x.size) || decide (x.first≠0)
def Up (L:List It):Prop:=∀ i,i<L.length - 1->cL (L.getD i aG).key (L.getD (i+1) aG).key<0
def IG (L:List It):Bool:=(List.range (L.length - 1)).all fun i=>decide (cL (L.getD i aG).key (L.getD (i+1) aG).key<0)
theorem nI (L:List It):IG L=true↔Up L:=by
 unfold IG Up;simp
def wrong (L:List It):Int:=if L.length=0 then 40 else if L.any ws then 41 else if L.any wv then 40 else if IG L then 0 else 30
def cb (p:Nat)(x:It):List Int:=ah (x.key.length - p)++(x.key.drop p++(ah (tg x.size)++(if 512<x.size then lb 4 x.first.toNat else x.val)))
def slots (p a:Nat):List It->List Int
 | []=>[]
 | x::L=>lb 2 a++slots p (a+(cb p x).length) L
def cells (p:Nat):List It->List Int
 | []=>[]
 | x::L=>cb p x++cells p L
def aZ (L:List It):List Int:=lb 1 1++(lb 2 L.length++(ah (pre L)++(L.headD aG).key.take (pre L)))
def used (L:List It):List Int:=aZ L++(slots (pre L) ((aZ L).length+2*L.length) L++cells (pre L) L)
def body (L:List It):List Int:=used L++List.replicate (4092 - (used L).length) 0
def Good (zs:List Int)(L:List It):Prop:=wrong L=0/\size L<=4092/\body L=zs
theorem gI:∀ (a b:List Int) (n:Nat),n<=gy a b->a.take n=b.take n
 | _,_,0,_=>by simp
 | [],b,n+1,h=>by rw [lA] at h;omega
 | a::aa,[],n+1,h=>by rw [iL] at h;omega
 | a::aa,b::bs,n+1,h=>by
  rw [fP] at h
  by_cases e:a=b
  ·rw [if_pos e] at h
   rw [List.take_succ_cons,List.take_succ_cons,e,gI aa bs n (by omega)]
  ·rw [if_neg e] at h;omega
theorem jV (f:List Int):∀ (l:List (List Int)) (n:Nat),∀ s∈l,bw f n l<=gy f s
 | [],_,s,h=>by cases h
 | t::l,n,s,h=>by
  rw [qz];rcases List.mem_cons.1 h with rfl | h
  ·exact Nat.le_trans (fF f l _) (Nat.min_le_right _ _)
  ·exact jV f l _ s h
theorem qB:∀ (a b:List Int) (n:Nat),n<=a.length->n<=b.length->a.take n=b.take n->n<=gy a b
 | _,_,0,_,_,_=>Nat.zero_le _
 | [],_,n+1,h,_,_=>by simp at h
 | _::_,[],n+1,_,h,_=>by simp at h
 | a::aa,b::bs,n+1,h1,h2,h=>by
  rw [List.take_succ_cons,List.take_succ_cons] at h;injection h with e1 e2
  rw [fP,if_pos e1];have:=qB aa bs n (by simpa using h1) (by simpa using h2) e2;omega
theorem dw {L:List It}:∀ x∈L,pre L<=x.key.length/\x.key.take (pre L)=(L.headD aG).key.take (pre L):=by
 cases L with
 | nil=>intro x h;cases h
 | cons y L =>
  intro x h;have hp:pre (y::L)=bw y.key y.key.length (L.map It.key):=rfl;rcases List.mem_cons.1 h with rfl | h
  ·exact ⟨by rw [hp];exact fF _ _ _,rfl⟩
  ·have h1:pre (y::L)<=gy y.key x.key:=by rw [hp];exact jV _ _ _ _ (List.mem_map_of_mem h)
   exact ⟨Nat.le_trans h1 (sy _ _),(gI _ _ _ h1).symm⟩
theorem Qu {L:List It}{x:It}(h:x∈L):(L.headD aG).key.take (pre L)++x.key.drop (pre L)=x.key:=by
 rw [<- (dw x h).2,List.take_append_drop]
theorem eI (n:Nat):vl n<=10:=jS n
theorem DN (n:Nat):1<=vl n:=Dw 10 n (by omega)
theorem Gr (s:Int):lg s<=262144:=by 
 unfold lg
 split
 ·omega
 ·split <;> omega
theorem YT (s:Int):tl s<=512:=by unfold tl;split <;> omega
theorem AH (s:Int):tg s<1048576:=by
 have:=Gr s;unfold tg;split <;> omega
theorem Mq (p:Nat)(x:It):cl p x<=x.key.length+532:=by
 have h1:=eI (x.key.length - p);have h2:=eI (tg x.size);have h3:=YT x.size;unfold cl;omega
theorem Gt (p K:Nat):∀ L:List It,(∀ x∈L,x.key.length<=K)->fZ p L<=L.length*(K+534)
 | [],_=>by simp [fZ]
 | x::L,h=>by
  have h1:=Mq p x;have h2:=h x List.mem_cons_self;have h3:=Gt p K L (fun y hy=>h y (List.mem_cons_of_mem _ hy));rw [fZ,List.length_cons,Nat.add_mul];omega
theorem pJ (p:Nat):∀ (L:List It) (i:Nat),i<L.length->fZ p (L.take (i+1))=fZ p (L.take i)+(2+cl p (L.getD i aG))
 | x::L,0,_=>by simp [fZ]
 | x::L,i+1,h=>by
  have:=pJ p L i (by simpa using h);simp only [List.take_succ_cons,fZ,List.getD_cons_succ];omega
theorem bW {L:List It}(h:wrong L=0):L.length≠0/\(∀ x∈L,ws x=false)/\(∀ x∈L,wv x=false)/\Up L:=by
 unfold wrong at h
 split at h
 ·omega
 ·rename_i h0
  split at h
  ·omega
  ·rename_i h1
   split at h
   ·omega
   ·rename_i h2
    split at h
    ·rename_i h3
     exact ⟨h0,fun x hx=>by simpa using fun e=>h1 (List.any_eq_true.2 ⟨x,hx,e⟩),fun x hx=>by simpa using fun e=>h2 (List.any_eq_true.2 ⟨x,hx,e⟩),(nI L).1 h3⟩
    ·omega
theorem cQ {x:It}(h:ws x=false):1<=x.key.length/\x.key.length<=255/\0<=x.size/\x.size<=262144:=by
 unfold ws at h;simp at h;omega
theorem nJ {x:It}(h:wv x=false):(512<x.size/\x.val=[]/\2<=x.first/\x.first<524287)∨(x.size<=512/\(x.val.length:Int)=x.size/\x.first=0):=by
 unfold wv at h
 split at h
 ·simp at h
  exact .inl ⟨by assumption,h.1.1,by omega,by omega⟩
 ·simp at h
  exact .inr ⟨by omega,h.1,h.2⟩
theorem Mr {s:Int}(h1:0<=s)(h2:s<=262144):lg s=s.toNat:=by
 unfold lg;rw [if_neg (by omega),if_neg (by omega)]
theorem VF {x:It}(h1:ws x=false)(h2:wv x=false):(cb p x).length=cl p x:=by
 have a:=cQ h1;have e:=Mr a.2.2.1 a.2.2.2;unfold cb cl tl vl;rw [e];simp only [List.length_append,List.length_drop];rcases nJ h2 with ⟨b1,b2,_⟩ | ⟨b1,b2,_⟩
 ·rw [if_pos b1,if_pos (by omega),aL];omega
 ·rw [if_neg (by omega),if_neg (by omega)];omega
theorem cx (p:Nat):∀ (L:List It) (a:Nat),(slots p a L).length=2*L.length
 | [],_=>rfl
 | x::L,a=>by rw [slots,List.length_append,aL,cx p L,List.length_cons];omega
theorem pK {p:Nat}:∀ {L:List It},(∀ x∈L,ws x=false)->(∀ x∈L,wv x=false)->(cells p L).length+2*L.length=fZ p L
 | [],_,_=>rfl
 | x::L,h1,h2=>by
  have:=pK (p:=p) (L:=L) (fun y hy=>h1 y (List.mem_cons_of_mem _ hy)) (fun y hy=>h2 y (List.mem_cons_of_mem _ hy));rw [cells,fZ,List.length_append,List.length_cons,VF (h1 x List.mem_cons_self) (h2 x List.mem_cons_self)];omega
theorem nK {L:List It}(h:L≠[]):(aZ L).length=3+vl (pre L)+pre L:=by
 cases L with
 | nil=>exact absurd rfl h
 | cons x L =>
  have:=(dw x (L:=x::L) List.mem_cons_self).1;unfold aZ vl;simp only [List.length_append,aL,List.length_take,List.headD_cons];omega
theorem tJ {L:List It}(h:wrong L=0):(used L).length=size L:=by
 obtain ⟨h0,h1,h2,_⟩:=bW h;have hL:L≠[]:=fun e=>h0 (by rw [e];rfl)
 have:=pK (p:=pre L) h1 h2;unfold used size;rw [List.length_append,List.length_append,cx,nK hL];omega
theorem nL {L:List It}(h:wrong L=0)(h2:size L<=4092):(body L).length=4092:=by
 unfold body;rw [List.length_append,List.length_replicate,tJ h];omega
def i64 (x:Nat):Int:=if x<9223372036854775808 then (x:Int) else (x:Int) - 18446744073709551616
def sV (zs:List Int)(s:Nat × Int):Nat × (Nat × Int) :=
 if s.2=0 then (if (rv (zs.drop s.1)).2.2=0 then ((rv (zs.drop s.1)).1,(s.1+(rv (zs.drop s.1)).2.1,0)) else (0,(s.1,(rv (zs.drop s.1)).2.2))) else (0,s)
def sB (zs:List Int)(s:Nat × Int)(m:Int):List Int × (Nat × Int) :=
 if s.2=0 then (if m<0∨(zs.length:Int) - s.1<m then ([],(s.1,10)) else ((zs.drop s.1).take m.toNat,(s.1+m.toNat,0))) else ([],s)
def sN (zs:List Int)(s:Nat × Int)(k:Nat):Nat × (Nat × Int) :=
 if s.2=0 then (if zs.length<s.1+k then (0,(s.1,10)) else (le k (zs.drop s.1),(s.1+k,0))) else (0,s)
def aU (zs P:List Int)(s:Nat × Int):List Int × (Nat × Int) :=
 (P++(sB zs (sV zs s).2 (i64 (sV zs s).1)).1,(sB zs (sV zs s).2 (i64 (sV zs s).1)).2)
def tK (zs key:List Int)(t:Nat × (Nat × Int)):It × (Nat × Int) :=
 if t.1 % 2=1 then (⟨key,[],(t.1 / 2:Nat),((sN zs t.2 4).1:Nat)⟩,(sN zs t.2 4).2) else (⟨key,(sB zs t.2 (t.1 / 2:Nat)).1,(t.1 / 2:Nat),0⟩,(sB zs t.2 (t.1 / 2:Nat)).2)
def dK (zs P:List Int)(s:Nat × Int):It × (Nat × Int):=tK zs (aU zs P s).1 (sV zs (aU zs P s).2)
def ij (zs P:List Int):Nat->Nat × Int->List It->List It
 | 0,_,acc=>acc
 | n+1,s,acc=>if (dK zs P s).2.2=0 then ij zs P n (dK zs P s).2 (acc++[(dK zs P s).1]) else []
def jW (zs:List Int):Nat × List Int × (Nat × Int) :=
 let n:=sN zs (sB zs (0,0) 1).2 2
 let v:=sV zs n.2
 let p:=sB zs v.2 (i64 v.1)
 (n.1,p.1,(sB zs p.2 ((2*n.1:Nat):Int)).2)
def parse (zs:List Int):List It:=ij zs (jW zs).2.1 (jW zs).1 (jW zs).2.2 []
theorem Gu {x:Nat}(h:zs.drop p=ah x++t)(hx:x<18446744073709551616):sV zs (p,0)=(x,(p+vl x,0)):=by
 unfold sV;simp only [if_pos,h,LX x t hx]
 rfl
theorem qC{y:List Int}(h:zs.drop p=y++t)(hp:p<=zs.length)(m:Int)(hm:m=(y.length:Int)):sB zs (p,0) m=(y,(p+y.length,0)):=by
 have hl:=congrArg List.length h;simp only [List.length_drop,List.length_append] at hl;subst hm;unfold sB;rw [if_pos rfl,if_neg (by simp only;omega)];simp [h]
theorem wV (h:zs.drop p=lb k x++t)(hp:p<=zs.length):sN zs (p,0) k=(x % 256 ^ k,(p+k,0)):=by
 have hl:=congrArg List.length h;simp only [List.length_drop,List.length_append,aL] at hl;unfold sN;rw [if_pos rfl,if_neg (by simp only;omega)];simp [h,jD]
theorem bJ{y:List Int}(h:zs.drop p=y++t):zs.drop (p+y.length)=t:=by
 rw [<- List.drop_drop,h,List.drop_left]
theorem bn{y:List Int}(h:zs.drop p=y++t)(hp:p<=zs.length):p+y.length<=zs.length:=by
 have hl:=congrArg List.length h;simp only [List.length_drop,List.length_append] at hl;omega
theorem pL (h:x<9223372036854775808):i64 x=(x:Int):=by unfold i64;rw [if_pos h]
theorem AJ {x:It}(h1:ws x=false)(_h2:wv x=false):tg x.size / 2=x.size.toNat/\(512<x.size↔tg x.size % 2=1):=by
 have a:=cQ h1;unfold tg;rw [Mr a.2.2.1 a.2.2.2]
 split <;> omega
theorem Ms{t:List Int}{q:Nat}{x:It}(h1:ws x=false)(h2:wv x=false)(hk:P++x.key.drop q=x.key)(h:zs.drop p=cb q x++t)(hp:p<=zs.length) :
  dK zs P (p,0)=(x,(p+(cb q x).length,0)):=by
 have a:=cQ h1;obtain ⟨t1,t2⟩:=AJ h1 h2;have ht:=AH x.size;have e:=h;unfold cb at e;simp only [List.append_assoc] at e;have r1:=Gu (x:=x.key.length - q) e (by omega);have e1:=bJ e;have p1:=bn e hp;have r2:=qC e1 p1 (i64 (x.key.length - q)) (by rw [pL (by omega),List.length_drop]);have e2:=bJ e1;have p2:=bn e1 p1;have r3:=Gu e2 (by omega);have e3:=bJ e2;have p3:=bn e2 p2
 have k1:aU zs P (p,0)=(x.key,(p+(ah (x.key.length - q)).length+(x.key.drop q).length,0)):=by
  unfold aU;rw [r1];simp only [vl,r2,hk]
 unfold dK;rw [k1];simp only;rw [r3];unfold tK
 have hc:(cb q x).length=(ah (x.key.length - q)).length+(x.key.drop q).length+(ah (tg x.size)).length+(if 512<x.size then lb 4 x.first.toNat else x.val).length:=by
  unfold cb;simp only [List.length_append];omega
 have hs:((x.size.toNat:Nat):Int)=x.size:=Int.toNat_of_nonneg a.2.2.1;rcases nJ h2 with ⟨b1,b2,b3,b4⟩ | ⟨b1,b2,b3⟩
 ·rw [if_pos b1] at e3 hc
  have r4:=wV e3 p3;simp only [vl];rw [if_pos (t2.1 b1),t1,r4,hc,aL,hs]
  have hf:((x.first.toNat % 256 ^ 4:Nat):Int)=x.first:=by
   rw [Nat.mod_eq_of_lt (by omega)];omega
  rw [hf];obtain ⟨k,v,s,f⟩:=x;simp only at b2;subst b2;simp only [Nat.add_assoc]
 ·rw [if_neg (by omega)] at e3 hc
  have r4:=qC e3 p3 ((x.size.toNat:Nat):Int) (by omega);simp only [vl];rw [if_neg (fun hh=>by have:=t2.2 hh;omega),t1,r4,hc,hs];obtain ⟨k,v,s,f⟩:=x;simp only at b3;subst b3;simp only [Nat.add_assoc]
theorem AK{t:List Int}{q:Nat}:∀ {L:List It} {p:Nat} (acc:List It),(∀ x∈L,ws x=false)->(∀ x∈L,wv x=false)->(∀ x∈L,P++x.key.drop q=x.key)->zs.drop p=cells q L++t->p<=zs.length ->
  ij zs P L.length (p,0) acc=acc++L
 | [],_,acc,_,_,_,_,_=>by simp [ij]
 | x::L,p,acc,h1,h2,hk,h,hp=>by
  rw [cells,List.append_assoc] at h;have r:=Ms (h1 x List.mem_cons_self) (h2 x List.mem_cons_self) (hk x List.mem_cons_self) h hp;rw [List.length_cons,ij,r,if_pos rfl,AK (t:=t) (q:=q) _ (fun y hy=>h1 y (List.mem_cons_of_mem _ hy)) (fun y hy=>h2 y (List.mem_cons_of_mem _ hy)) (fun y hy=>hk y (List.mem_cons_of_mem _ hy)) (bJ h) (bn h hp)];simp
theorem nM {L:List It}(h:wrong L=0)(h2:size L<=4092):L.length<=2046/\pre L<=255:=by
 obtain ⟨h0,h1,hv,_⟩:=bW h;have:=pK (p:=pre L) h1 hv;unfold size at h2;refine ⟨by omega,?_⟩;cases L with
 | nil=>exact absurd rfl h0
 | cons x L =>
  have a:=(dw x (L:=x::L) List.mem_cons_self).1;have b:=(cQ (h1 x List.mem_cons_self)).2.1;omega
theorem Mt {L:List It}(h:Good zs L):jW zs=(L.length,(L.headD aG).key.take (pre L),((aZ L).length+2*L.length,0))/\zs.drop ((aZ L).length+2*L.length)=cells (pre L) L++List.replicate (4092 - (used L).length) 0/\(aZ L).length+2*L.length<=zs.length:=by
 obtain ⟨hw,hs,hb⟩:=h;obtain ⟨hm,hp⟩:=nM hw hs;obtain ⟨h0,h1,hv,_⟩:=bW hw;have hL:L≠[]:=fun e=>h0 (by rw [e];rfl)
 have hl:=nK hL
 have e0:zs.drop 0=lb 1 1++(lb 2 L.length++(ah (pre L)++((L.headD aG).key.take (pre L)++(slots (pre L) ((aZ L).length+2*L.length) L++(cells (pre L) L++List.replicate (4092 - (used L).length) 0))))):=by
  rw [List.drop_zero,<- hb];unfold body used;generalize (aZ L).length=z;unfold aZ;simp only [List.append_assoc]
 have r0:=qC e0 (Nat.zero_le _) 1 rfl;have e1:=bJ e0;have p1:=bn e0 (Nat.zero_le _);have r1:=wV e1 p1;have e2:=bJ e1;have p2:=bn e1 p1;rw [aL 2] at e2 p2;have r2:=Gu e2 (by omega);have e3:=bJ e2;have p3:=bn e2 p2
 have hk:((L.headD aG).key.take (pre L)).length=pre L:=by
  cases L with
  | nil=>exact absurd rfl hL
  | cons x L=>rw [List.length_take,List.headD_cons];have:=(dw x (L:=x::L) List.mem_cons_self).1;omega
 have r3:=qC e3 p3 (i64 (pre L)) (by rw [pL (by omega),hk]);have e4:=bJ e3;have p4:=bn e3 p3;have r4:=qC e4 p4 ((2*L.length:Nat):Int) (by rw [cx]);have e5:=bJ e4;have p5:=bn e4 p4;have hn:L.length % 256 ^ 2=L.length:=Nat.mod_eq_of_lt (by omega)
 have ha:0+(lb 1 1).length+2+(ah (pre L)).length+((L.headD aG).key.take (pre L)).length=(aZ L).length:=by
  rw [hl,hk,aL];unfold vl;omega
 rw [ha] at e4 p4 e5 p5 r4;rw [cx] at e5 p5 r4;refine ⟨?_,e5,p5⟩;unfold jW;rw [r0];simp only;rw [r1];simp only [hn];rw [r2];simp only [vl];rw [r3];simp only;rw [ha,r4]
theorem mF {L:List It}(h:Good zs L):parse zs=L:=by
 obtain ⟨hw,hs,hb⟩:=h;obtain ⟨r,e,p⟩:=Mt ⟨hw,hs,hb⟩;obtain ⟨h0,h1,hv,_⟩:=bW hw;unfold parse;rw [r];simp only;rw [AK [] h1 hv (fun x hx=>Qu hx) e p,List.nil_append]
theorem Mu {L M:List It}(h:Good zs L)(k:Good zs M):L=M:=(mF h).symm.trans (mF k)
structure Ow (w:World)(g cap:Nat)(zs:List Int):Prop where
 ex:∃ cur:Array Value,w.heap[g]?=some (.cells cur 5 (0,0))/\cur.size=cap/\∀ j,j<zs.length->cur[j]?=some (.int .u8 (zs.getD j 0))
 le:zs.length<=cap
 max:cap<=9223372036854775807
theorem Ow.aP {base:Nat}(h:w.ownsRow base 5 1 (.slice (some ⟨g,0,none⟩) n cap) n (zs.map (Value.int .u8))):Ow w g cap zs/\zs.length=n/\base<=g/\g<w.heap.size:=by
 have hl:zs.length=n:=by have:=h.1;simpa using this
 have hlt:=h.lt g rfl;rcases h.2 with ⟨e,_⟩ | ⟨g',cap',cur,hv,hb,hg,hc,hm,hs,ht⟩
 ·cases e
 ·injection hv with e1 _ e3
  simp only [Option.some.injEq,Addr.mk.injEq] at e1;obtain ⟨rfl,_⟩:=e1;subst e3;refine ⟨⟨⟨cur,hg,by simpa using hs,fun j hj=>?_⟩,by omega,by unfold maxLen at hm;omega⟩,hl,hlt⟩;have e:(cur.toList.take (n*1))[j]?=(zs.map (Value.int .u8))[j]?:=by rw [ht]
  rw [List.getElem?_take,if_pos (by omega),Array.getElem?_toList] at e;rw [e];simp [List.getD,List.getElem?_eq_getElem hj]
theorem Ow.cell {zs:List Int}(h:Ow w g cap zs){j:Nat}(hj:j<zs.length):w.cell? ⟨g,j,none⟩=some (.int .u8 (zs.getD j 0)):=by
 obtain ⟨cur,h1,_,h3⟩:=h.ex;rw [cell_of_row w g j _ _ _ h1];exact h3 j hj
theorem Ow.lt (h:Ow w g cap zs):g<w.heap.size:=by
 obtain ⟨cur,h1,_,_⟩:=h.ex;exact (Array.getElem?_eq_some_iff.1 h1).1
theorem Ow.AL (h:Ow w g cap zs)(n:Nat)(hn:n=zs.length):ai w (some ⟨g,0,none⟩) n cap zs:=by
 subst hn;exact ai.eZ rfl fun i hi=>by rw [Nat.zero_add];exact h.cell hi
theorem Ow.same (h:Ow w g cap zs)(e:w'.heap[g]?=w.heap[g]?):Ow w' g cap zs:=by
 obtain ⟨cur,h1,h2,h3⟩:=h.ex;exact ⟨⟨cur,e.trans h1,h2,h3⟩,h.le,h.max⟩
theorem Ow.kept {row:Option Nat}(h:Ow w g cap zs)(hg:w.grownBy w' row)(hne:some g≠row):Ow w' g cap zs:=h.same (hg.block g h.lt hne)
theorem Ow.ae (h:Ow w g cap zs)(hg:w.grownBy w' none):Ow w' g cap zs:=h.kept hg (by simp)
theorem Ow.part {ys:List Int}(h:Ow w g cap (xs++ys)):Ow w g cap xs:=by
 obtain ⟨cur,h1,h2,h3⟩:=h.ex;have:=h.le;simp at this;refine ⟨⟨cur,h1,h2,fun j hj=>?_⟩,by omega,h.max⟩;rw [h3 j (by simp;omega)];simp [List.getD,List.getElem?_append_left hj]
theorem ay (w:World)(g j:Nat)(v:Value):w.grownBy (w.setCell ⟨g,j,none⟩ v) (some g) :=
 ⟨rfl,rfl,rfl,by simp,fun k _ hk=>heap_setCell_other w ⟨g,j,none⟩ k _ (fun e=>hk (by simp [e]))⟩
def ik (x:Int):Bool:=decide (2<=x) && decide (x<=524286)
def sA (x:Int):Bool:=decide (x=0) || ik x
def cnt (x:Int)(n full:Nat):Bool:=decide (full<n) || (decide (x≠0) && decide (n<full))
def eD (x:Int)(n:Nat):Int:=if sA x=false then 51 else if (decide (n=0) || cnt x n 4085)=true then 62 else 0
def Gv (xs:List Int):Bool:=(List.range (xs.length - 1)).all fun i=>decide (xs.getD i 0<xs.getD (i+1) 0)
def vX (x:Int)(xs:List Int):Bool:=cnt x xs.length 1021 || (!(xs.all ik) || !(Gv xs))
def eL (x:Int)(xs:List Int):Int:=if sA x=false then 51 else if vX x xs=true then 63 else 0
theorem sD {x:Int}:ik x=true↔2<=x/\x<=524286:=by simp [ik]
theorem iq {x:Int}(h:sA x=true):∃ k:Nat,x=(k:Int)/\k<=524286:=by
 simp only [sA,Bool.or_eq_true,decide_eq_true_eq,sD] at h;exact ⟨x.toNat,by omega,by omega⟩
theorem nN {x:Int}(h:eD x n=0):sA x=true/\0<n/\n<=4085/\(decide (n=0) || cnt x n 4085)=false:=by
 unfold eD at h
 split at h
 ·exact absurd h (by decide)
 ·split at h
  ·exact absurd h (by decide)
  ·rename_i h1 h2
   have h3:(decide (n=0) || cnt x n 4085)=false:=by simpa using h2
   refine ⟨by simpa using h1,?_,?_,h3⟩
   ·simp only [Bool.or_eq_false_iff,decide_eq_false_iff_not] at h3;omega
   ·simp only [Bool.or_eq_false_iff,decide_eq_false_iff_not,cnt] at h3;omega
theorem sF {x:Int}(h:eL x xs=0):sA x=true/\xs.length<=1021/\xs.all ik=true/\vX x xs=false:=by
 unfold eL at h
 split at h
 ·exact absurd h (by decide)
 ·split at h
  ·exact absurd h (by decide)
  ·rename_i h1 h2
   have h3:vX x xs=false:=by simpa using h2
   have h4:=h3;simp only [vX,cnt,Bool.or_eq_false_iff,decide_eq_false_iff_not,Bool.not_eq_false'] at h4;exact ⟨by simpa using h1,by omega,h4.2.1,h3⟩
def hd (k x n:Nat):List Int:=(k:Int)::(lb 4 x++lb 2 n)
theorem jX (k x n:Nat):(hd k x n).length=7:=by simp [hd,aL]
def dB (x:Nat)(zs:List Int):List Int:=hd 3 x zs.length++(zs++List.replicate (4085 - zs.length) 0)
def fl (xs:List Int):List Int:=(xs.map (fun v=>lb 4 v.toNat)).flatten
def lB (x:Nat)(xs:List Int):List Int:=hd 4 x xs.length++(fl xs++List.replicate (4085 - 4*xs.length) 0)
theorem xW:fl []=[]:=rfl
theorem jk (v:Int)(xs:List Int):fl (v::xs)=lb 4 v.toNat++fl xs:=by simp [fl]
theorem DO (xs ys:List Int):fl (xs++ys)=fl xs++fl ys:=by simp [fl]
theorem tL:∀ xs:List Int,(fl xs).length=4*xs.length
 | []=>rfl
 | v::xs=>by rw [jk,List.length_append,aL,tL xs,List.length_cons];omega
theorem DT (h:zs.length<=4085):(dB x zs).length=4092:=by
 unfold dB;rw [List.length_append,List.length_append,jX,List.length_replicate];omega
theorem DU (h:xs.length<=1021):(lB x xs).length=4092:=by
 unfold lB;rw [List.length_append,List.length_append,jX,List.length_replicate,tL];omega
def rN (bs:List Int):Nat:=le 4 (bs.drop 1)
def rC (bs:List Int):Nat:=le 2 (bs.drop 5)
def rD (bs:List Int):List Int:=if rC bs<=4085 then (bs.drop 7).take (rC bs) else []
def rL (bs:List Int)(m:Nat):List Int:=(List.range m).map fun i=>((le 4 (bs.drop (7+4*i)):Nat):Int)
def dD (bs:List Int):Bool:=decide (bs.length=4092) && (decide (eD (rN bs) (rD bs).length=0) && decide (dB (rN bs) (rD bs)=bs))
def dL (bs:List Int):Bool:=decide (bs.length=4092) && (decide (rC bs<=1021) && (decide (eL (rN bs) (rL bs (rC bs))=0) && decide (lB (rN bs) (rL bs (rC bs))=bs)))
theorem AO (k x n:Nat)(t:List Int):(hd k x n++t).drop 1=lb 4 x++(lb 2 n++t):=by simp [hd]
theorem Mv (k x n:Nat)(t:List Int):(hd k x n++t).drop 5=lb 2 n++t:=by
 rw [show (5:Nat)=1+4 from rfl,<- List.drop_drop,AO,List.drop_left' (aL 4 x)]
theorem AQ (k x n:Nat)(t:List Int):(hd k x n++t).drop 7=t:=List.drop_left' (jX k x n)
theorem Ub{x:Nat}(hx:x<4294967296):rN (hd k x n++t)=x:=by
 unfold rN;rw [AO,jD];exact Nat.mod_eq_of_lt (by omega)
theorem Mw{x:Nat}(hn:n<65536):rC (hd k x n++t)=n:=by
 unfold rC;rw [Mv,jD];exact Nat.mod_eq_of_lt (by omega)
theorem YU {x:Nat}(h:zs.length<=4085):rD (dB x zs)=zs:=by
 unfold rD;have e:rC (dB x zs)=zs.length:=Mw (by omega);rw [e,if_pos h];unfold dB;rw [AQ,List.take_left]
theorem Qv (xs:List Int):∀ i,i<xs.length->∃ t,(fl xs).drop (4*i)=lb 4 (xs.getD i 0).toNat++t:=by
 induction xs with
 | nil=>intro i hi;simp at hi
 | cons v xs ih =>
  intro i hi;cases i with
  | zero=>exact ⟨fl xs,by rw [jk];rfl⟩
  | succ i =>
   obtain ⟨t,ht⟩:=ih i (by simpa using hi);refine ⟨t,?_⟩;rw [jk,show 4*(i+1)=4+4*i by omega,<- List.drop_drop,List.drop_left' (aL 4 _),ht]
   rfl
theorem jl (bs:List Int)(m:Nat):(rL bs m).length=m:=by simp [rL]
theorem VG (bs:List Int)(m i:Nat)(h:i<m):(rL bs m).getD i 0=((le 4 (bs.drop (7+4*i)):Nat):Int):=by
 simp [rL,List.getD,h]
theorem Qw (bs:List Int)(m:Nat):rL bs (m+1)=rL bs m++[((le 4 (bs.drop (7+4*m)):Nat):Int)]:=by
 simp [rL,List.range_succ]
theorem YV {x:Nat}(h:xs.all ik=true):rL (lB x xs) xs.length=xs:=by
 refine List.ext_getElem (jl _ _) fun i h1 h2=>?_
 have h3:=VG (lB x xs) xs.length i h2;obtain ⟨t,ht⟩:=Qv xs i h2
 have h4:(lB x xs).drop (7+4*i)=lb 4 (xs.getD i 0).toNat++(t++List.replicate (4085 - 4*xs.length) 0):=by
  unfold lB;rw [<- List.drop_drop,AQ,List.drop_append_of_le_length (by rw [tL];omega),ht,List.append_assoc]
 rw [h4,jD] at h3;have h5:=sD.1 (List.all_eq_true.1 h xs[i] (List.getElem_mem h2));have h6:xs.getD i 0=xs[i]:=by simp [List.getD,List.getElem?_eq_getElem h2]
 rw [h6,Nat.mod_eq_of_lt (by omega)] at h3;have h7:(rL (lB x xs) xs.length).getD i 0=(rL (lB x xs) xs.length)[i]:=by simp [List.getD,List.getElem?_eq_getElem h1]
 rw [<- h7,h3];omega
theorem YW (h:eD x zs.length=0):dD (dB x zs)=true/\rN (dB x zs)=x/\rD (dB x zs)=zs:=by
 obtain ⟨h1,h2,h3,_⟩:=nN h;obtain ⟨k,hk,hk2⟩:=iq h1;have e1:rN (dB x zs)=x:=Ub (by omega);have e2:=YU (x:=x) h3;refine ⟨?_,e1,e2⟩;unfold dD;rw [e1,e2];simp [DT h3,h]
theorem YX (h:eL x xs=0):dL (lB x xs)=true/\rN (lB x xs)=x/\rC (lB x xs)=xs.length/\rL (lB x xs) xs.length=xs:=by
 obtain ⟨h1,h2,h3,_⟩:=sF h;obtain ⟨k,hk,hk2⟩:=iq h1;have e1:rN (lB x xs)=x:=Ub (by omega);have e2:rC (lB x xs)=xs.length:=Mw (by omega);have e3:=YV (x:=x) h3;refine ⟨?_,e1,e2,e3⟩;unfold dL;rw [e1,e2,e3];simp [DU h2,h,h2]
theorem AR (h:dD bs=true):bs.length=4092/\eD (rN bs) (rD bs).length=0/\dB (rN bs) (rD bs)=bs:=by
 simp only [dD,Bool.and_eq_true,decide_eq_true_eq] at h;exact ⟨h.1,h.2.1,h.2.2⟩
theorem jY (h:dL bs=true):bs.length=4092/\rC bs<=1021/\eL (rN bs) (rL bs (rC bs))=0/\lB (rN bs) (rL bs (rC bs))=bs:=by
 simp only [dL,Bool.and_eq_true,decide_eq_true_eq] at h;exact ⟨h.1,h.2.1,h.2.2.1,h.2.2.2⟩
theorem Uc (hk:k<=255):Bt (hd k x n):=Bt.cons ⟨by omega,by omega⟩ (Bt.app (jC 4 x) (jC 2 n))
theorem Mx (n:Nat):Bt (List.replicate n (0:Int)):=fun z hz=>by have:=(List.mem_replicate.1 hz).2;omega
theorem Ud:∀ xs:List Int,Bt (fl xs)
 | []=>Bt.nil
 | v::xs=>by rw [jk];exact Bt.app (jC 4 _) (Ud xs)
theorem YZ (h:Bt zs):Bt (dB x zs):=Bt.app (Uc (by omega)) (Bt.app h (Mx _))
theorem Za (x:Nat)(xs:List Int):Bt (lB x xs):=Bt.app (Uc (by omega)) (Bt.app (Ud xs) (Mx _))
theorem Zb (h:Bt bs):rN bs<4294967296:=dQ 4 _ (h.drop 1)
theorem Zc (h:Bt bs):rC bs<65536:=dQ 2 _ (h.drop 5)
theorem My (h:¬ rC bs<=1021):lB (rN bs) (rL bs 1021)≠bs:=by
 intro e;have h1:rC (lB (rN bs) (rL bs 1021))=(rL bs 1021).length:=Mw (by rw [jl];omega);rw [e,jl] at h1;omega
def pg (n:Nat):Nat:=if n<=512∨262144<n then 0 else (n+4084) / 4085
def pc (zs:List Int)(i:Nat):List Int:=(zs.drop (4085*i)).take 4085
structure Hd where
 v:Int
 c:Int
 r:Int
 h:Int
 k:Int
 f:Int
 n:Int
def zH:Hd:=⟨0,0,0,0,0,0,0⟩
theorem Hd.same {a b:Hd}(h1:a.v=b.v)(h2:a.c=b.c)(h3:a.r=b.r)(h4:a.h=b.h)(h5:a.k=b.k)(h6:a.f=b.f)(h7:a.n=b.n):a=b:=by
 cases a;cases b;simp only at h1 h2 h3 h4 h5 h6 h7;subst h1 h2 h3 h4 h5 h6 h7;rfl
def wi (x a b:Int):Bool:=decide (a<=x) && decide (x<=b)
theorem pM {x a b:Int}:wi x a b=true↔a<=x/\x<=b:=by simp [wi]
def II (H:Hd):Bool:=if H.r=0 then decide (H.h=0) && decide (H.k=0) else wi H.r 2 (H.c - 1) && (wi H.h 1 16 && wi H.k 1 4294967295)
def IJ (H:Hd):Bool:=if H.f=0 then decide (H.n=0) else wi H.f 2 (H.c - 1) && wi H.n 1 (H.c - 2)
def may (H:Hd):Bool:=wi H.v 1 4611686018427387904 && (wi H.c 2 524287 && (II H && IJ H))
theorem fG {H:Hd}(h:may H=true):1<=H.v/\H.v<=4611686018427387904/\2<=H.c/\H.c<=524287/\0<=H.r/\H.r<=524286/\0<=H.h/\H.h<=16/\0<=H.k/\H.k<=4294967295/\0<=H.f/\H.f<=524286/\0<=H.n/\H.n<=524285:=by
 simp only [may,Bool.and_eq_true,pM] at h;obtain ⟨⟨h1,h2⟩,⟨h3,h4⟩,h5,h6⟩:=h
 have t:0<=H.r/\H.r<=524286/\0<=H.h/\H.h<=16/\0<=H.k/\H.k<=4294967295:=by
  unfold II at h5
  split at h5
  ·simp only [Bool.and_eq_true,decide_eq_true_eq] at h5;omega
  ·simp only [Bool.and_eq_true,pM] at h5;omega
 have f:0<=H.f/\H.f<=524286/\0<=H.n/\H.n<=524285:=by
  unfold IJ at h6
  split at h6
  ·simp only [decide_eq_true_eq] at h6;omega
  ·simp only [Bool.and_eq_true,pM] at h6;omega
 omega
def Py:List Int:=[5,99,111,112]
def LB:List Int:=[101,110,100,46]
def nb (H:Hd):List Int:=lb 8 H.v.toNat++(lb 4 H.c.toNat++(lb 4 H.r.toNat++(lb 1 H.h.toNat++(lb 8 H.k.toNat++(lb 4 H.f.toNat++lb 4 H.n.toNat)))))
def zr:List Int:=List.replicate 4051 0
theorem xX:zr.length=4051:=List.length_replicate
def mB (H:Hd):List Int:=Py++(nb H++(zr++LB))
theorem DV (H:Hd):(nb H).length=33:=by simp [nb,aL]
theorem DW (H:Hd):(mB H).length=4092:=by
 unfold mB;rw [List.length_append,List.length_append,List.length_append,DV,xX];rfl
theorem Zd:Bt zr:=by
 intro z hz;have:=List.eq_of_mem_replicate hz;omega
theorem VH:Bt Py:=by intro z hz;simp [Py] at hz;omega
theorem VI:Bt LB:=by intro z hz;simp [LB] at hz;omega
theorem Ze (H:Hd):Bt (nb H):=(Bt.app (jC _ _) (Bt.app (jC _ _) (Bt.app (jC _ _) (Bt.app (jC _ _) (Bt.app (jC _ _) (Bt.app (jC _ _) (jC _ _)))))))
theorem Zf (H:Hd):Bt (mB H):=VH.app ((Ze H).app (Zd.app VI))
def sg (x:Nat):Int:=if x<9223372036854775808 then (x:Int) else (x:Int) - 18446744073709551616
theorem Gx (h:x<18446744073709551616):IntKind.i64.wrap (x:Int)=sg x:=by
 unfold sg
 split
 ·simp [IntKind.wrap,IntKind.bits,IntKind.signed];omega
 ·simp [IntKind.wrap,IntKind.bits,IntKind.signed];omega
def rH (zs:List Int):Hd:=⟨sg (le 8 (zs.drop 4)),(le 4 (zs.drop 12):Nat),(le 4 (zs.drop 16):Nat),(le 1 (zs.drop 20):Nat),sg (le 8 (zs.drop 21)),(le 4 (zs.drop 29):Nat),(le 4 (zs.drop 33):Nat)⟩
theorem Zg (zs:List Int):(rH zs).v=sg (le 8 (zs.drop 4)):=rfl
theorem Zh (zs:List Int):(rH zs).c=(le 4 (zs.drop 12):Nat):=rfl
theorem Zi (zs:List Int):(rH zs).r=(le 4 (zs.drop 16):Nat):=rfl
theorem Zj (zs:List Int):(rH zs).h=(le 1 (zs.drop 20):Nat):=rfl
theorem Zk (zs:List Int):(rH zs).k=sg (le 8 (zs.drop 21)):=rfl
theorem Zl (zs:List Int):(rH zs).f=(le 4 (zs.drop 29):Nat):=rfl
theorem Zm (zs:List Int):(rH zs).n=(le 4 (zs.drop 33):Nat):=rfl
def dM (zs:List Int):Bool:=decide (zs.length=4092) && (may (rH zs) && decide (mB (rH zs)=zs))
theorem AU (h:dM zs=true):zs.length=4092/\may (rH zs)=true/\mB (rH zs)=zs:=by
 simp only [dM,Bool.and_eq_true,decide_eq_true_eq] at h;exact h
theorem nO:∀ (k:Nat) (zs:List Int),Bt zs->k<=zs.length->lb k (le k zs)=zs.take k
 | 0,_,_,_=>by simp [lb]
 | k+1,[],_,h=>by simp at h
 | k+1,z::zs,hb,h=>by
  have hz:=hb z List.mem_cons_self;have ih:=nO k zs (fun y hy=>hb y (List.mem_cons_of_mem _ hy)) (by simpa using h);rw [le,lb,List.take_succ_cons,show (z.toNat+256*le k zs) / 256=le k zs by omega,ih,show (z.toNat+256*le k zs) % 256=z.toNat by omega,show ((z.toNat:Nat):Int)=z by omega]
theorem gh (zs:List Int)(a b:Nat):zs.drop a=(zs.drop a).take b++zs.drop (a+b):=by
 rw [<- List.drop_drop,List.take_append_drop]
theorem d4 (H:Hd):(mB H).drop 4=nb H++(zr++LB):=rfl
theorem dn (H:Hd)(a b c k x:Nat)(t:List Int)(h:(mB H).drop a=lb k x++t)(hc:c=a+k)(hb:b=c):(mB H).drop b=t:=by
 subst hb hc;rw [<- List.drop_drop,h,List.drop_left' (aL k x)]
theorem pN (H:Hd):∃ t1 t2 t3 t4 t5 t6 t7,(mB H).drop 4=lb 8 H.v.toNat++t1/\(mB H).drop 12=lb 4 H.c.toNat++t2/\(mB H).drop 16=lb 4 H.r.toNat++t3/\(mB H).drop 20=lb 1 H.h.toNat++t4 /\
  (mB H).drop 21=lb 8 H.k.toNat++t5/\(mB H).drop 29=lb 4 H.f.toNat++t6/\(mB H).drop 33=lb 4 H.n.toNat++t7/\(mB H).drop 37=zr++LB:=by
 have h1:(mB H).drop 4=lb 8 H.v.toNat++(lb 4 H.c.toNat++(lb 4 H.r.toNat++(lb 1 H.h.toNat++(lb 8 H.k.toNat++(lb 4 H.f.toNat++(lb 4 H.n.toNat++(zr++LB))))))):=by
  rw [d4];unfold nb;simp only [List.append_assoc]
 have h2:=dn H 4 12 12 8 _ _ h1 rfl rfl;have h3:=dn H 12 16 16 4 _ _ h2 rfl rfl;have h4:=dn H 16 20 20 4 _ _ h3 rfl rfl;have h5:=dn H 20 21 21 1 _ _ h4 rfl rfl;have h6:=dn H 21 29 29 8 _ _ h5 rfl rfl;have h7:=dn H 29 33 33 4 _ _ h6 rfl rfl;have h8:=dn H 33 37 37 4 _ _ h7 rfl rfl;exact ⟨_,_,_,_,_,_,_,h1,h2,h3,h4,h5,h6,h7,h8⟩
theorem VJ (H:Hd):(mB H).drop 4088=LB:=by
 obtain ⟨_,_,_,_,_,_,_,_,_,_,_,_,_,_,h8⟩:=pN H;rw [show (4088:Nat)=37+4051 by rfl,<- List.drop_drop,h8,List.drop_left' xX]
theorem Qx (H:Hd):((mB H).drop 37).take 4051=zr:=by
 obtain ⟨_,_,_,_,_,_,_,_,_,_,_,_,_,_,h8⟩:=pN H;rw [h8,List.take_left' xX]
theorem Ue {H:Hd}(h:may H=true):rH (mB H)=H:=by
 have hb:=fG h;obtain ⟨t1,t2,t3,t4,t5,t6,t7,h1,h2,h3,h4,h5,h6,h7,h8⟩:=pN H;refine Hd.same ?_ ?_ ?_ ?_ ?_ ?_ ?_
 ·rw [Zg,h1,jD,Nat.mod_eq_of_lt (by omega)];unfold sg;rw [if_pos (by omega)];omega
 ·rw [Zh,h2,jD,Nat.mod_eq_of_lt (by omega)];omega
 ·rw [Zi,h3,jD,Nat.mod_eq_of_lt (by omega)];omega
 ·rw [Zj,h4,jD,Nat.mod_eq_of_lt (by omega)];omega
 ·rw [Zk,h5,jD,Nat.mod_eq_of_lt (by omega)];unfold sg;rw [if_pos (by omega)];omega
 ·rw [Zl,h6,jD,Nat.mod_eq_of_lt (by omega)];omega
 ·rw [Zm,h7,jD,Nat.mod_eq_of_lt (by omega)];omega
theorem Zn {H:Hd}(h:may H=true):dM (mB H)=true:=by
 unfold dM;rw [Ue h,h];simp [DW]
theorem Mz (h:0<=sg x)(hx:x<18446744073709551616):(sg x).toNat=x:=by
 unfold sg at h ⊢
 split at h
 ·rw [if_pos (by assumption)];omega
 ·omega
theorem Zo (hl:zs.length=4092)(hb:Bt zs)(hm:may (rH zs)=true)(h1:zs.take 1=[5])(h2:(zs.drop 1).take 3=[99,111,112])(h3:(zs.drop 37).take 4051=zr)(h4:(zs.drop 4088).take 4=LB):mB (rH zs)=zs:=by
 have b:=fG hm
 have e0:zs=zs.take 1++((zs.drop 1).take 3++((zs.drop 4).take 8++((zs.drop 12).take 4++((zs.drop 16).take 4++((zs.drop 20).take 1++((zs.drop 21).take 8++((zs.drop 29).take 4++((zs.drop 33).take 4++((zs.drop 37).take 4051++(zs.drop 4088).take 4))))))))):=by
  have e9:(zs.drop 4088).take 4=zs.drop 4088:=List.take_of_length_le (by rw [List.length_drop];omega);rw [e9,<- gh zs 37 4051,<- gh zs 33 4,<- gh zs 29 4,<- gh zs 21 8,<- gh zs 20 1,<- gh zs 16 4,<- gh zs 12 4,<- gh zs 4 8,<- gh zs 1 3,List.take_append_drop]
 have n1:lb 8 (rH zs).v.toNat=(zs.drop 4).take 8:=by
  rw [show (rH zs).v.toNat=le 8 (zs.drop 4) from Mz (by have:=b.1;show 0<=(rH zs).v;omega) (by have:=dQ 8 _ (hb.drop 4);omega)];exact nO 8 _ (hb.drop 4) (by rw [List.length_drop];omega)
 have n5:lb 8 (rH zs).k.toNat=(zs.drop 21).take 8:=by
  rw [show (rH zs).k.toNat=le 8 (zs.drop 21) from Mz (by show 0<=(rH zs).k;omega) (by have:=dQ 8 _ (hb.drop 21);omega)];exact nO 8 _ (hb.drop 21) (by rw [List.length_drop];omega)
 have n2:lb 4 (rH zs).c.toNat=(zs.drop 12).take 4:=nO 4 _ (hb.drop 12) (by rw [List.length_drop];omega);have n3:lb 4 (rH zs).r.toNat=(zs.drop 16).take 4:=nO 4 _ (hb.drop 16) (by rw [List.length_drop];omega);have n4:lb 1 (rH zs).h.toNat=(zs.drop 20).take 1:=nO 1 _ (hb.drop 20) (by rw [List.length_drop];omega);have n6:lb 4 (rH zs).f.toNat=(zs.drop 29).take 4:=nO 4 _ (hb.drop 29) (by rw [List.length_drop];omega);have n7:lb 4 (rH zs).n.toNat=(zs.drop 33).take 4:=nO 4 _ (hb.drop 33) (by rw [List.length_drop];omega);refine Eq.trans ?_ e0.symm;rw [h1,h2,h3,h4];unfold mB nb;rw [n1,n2,n3,n4,n5,n6,n7];simp only [List.append_assoc]
 rfl
theorem VK (hl:zs.length=4092)(hb:Bt zs):dM zs=true↔may (rH zs)=true/\zs.take 1=[5]/\(zs.drop 1).take 3=[99,111,112]/\(zs.drop 37).take 4051=zr/\(zs.drop 4088).take 4=LB:=by
 constructor
 ·intro h
  obtain ⟨_,h2,h3⟩:=AU h;refine ⟨h2,?_,?_,?_,?_⟩
  ·rw [<- h3];rfl
  ·rw [<- h3];rfl
  ·rw [<- h3];exact Qx _
  ·rw [<- h3,VJ];rfl
 ·rintro ⟨h1,h2,h3,h4,h5⟩
  simp [dM,hl,h1,Zo hl hb h1 h2 h3 h4 h5]
def cm (x:Nat):Int:=if 4611686018427387904<x then 4611686018427387905 else (x:Int)
def aH (zs:List Int):Hd:=if dM zs=true then rH zs else zH
def aE (zs:List Int):Int:=if dM zs=true then 0 else 70
theorem pO (h:dM zs=false):aH zs=zH/\aE zs=70:=by unfold aH aE;rw [h];exact ⟨rfl,rfl⟩
theorem AV (h:dM zs=true):aH zs=rH zs/\aE zs=0:=by unfold aH aE;rw [h];exact ⟨rfl,rfl⟩
def oM (H:Hd):List Int:=if may H=true then mB H else []
def eM (H:Hd):Int:=if may H=true then 0 else 71
theorem MA {H:Hd}(h:may H=false):oM H=[]/\eM H=71:=by unfold oM eM;rw [h];exact ⟨rfl,rfl⟩
theorem wW {H:Hd}(h:may H=true):oM H=mB H/\eM H=0:=by unfold oM eM;rw [h];exact ⟨rfl,rfl⟩
theorem Zp (H:Hd):Bt (oM H):=by
 unfold oM;split
 ·exact Zf H
 ·exact Bt.nil
end Go.Proofs.YtgldkdbkaachkaaGreatDoor
