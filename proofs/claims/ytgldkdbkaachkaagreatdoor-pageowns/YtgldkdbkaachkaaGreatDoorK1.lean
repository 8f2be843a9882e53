import Derived.WalkKit
import Derived.WalkSpells
import Derived.WalkLawsBesides
import Derived.Deep.QuietTactic
import Derived.BigQuiet
import Derived.Deep.RegionWith
import Derived.OpenShut
namespace Go.Proofs.YtgldkdbkaachkaaGreatDoor
open Go.RowKit
variable {a zs:List Int}{b cap n:Nat}{ao:Option Addr}{w w':World}
structure ai (w:World)(ao:Option Addr)(n cap:Nat)(zs:List Int):Prop where
 len:zs.length=n
 nil:ao=none->n=0/\cap=0
 cells:∀ ad,ao=some ad->∀ j u,(zs.map (Value.int .u8))[j]?=some u->w.cell? (ad.add j)=some u
def Bt (zs:List Int):Prop:=∀ z∈zs,0<=z/\z<=255
theorem Bt.nil:Bt []:=by intro z h;simp at h
theorem Bt.cons {z:Int}(h:0<=z/\z<=255)(t:Bt zs):Bt (z::zs):=by
 intro y hy;rcases List.mem_cons.1 hy with rfl | hy
 ·exact h
 ·exact t y hy
theorem Bt.app{b:List Int}(h:Bt a)(k:Bt b):Bt (a++b):=by
 intro y hy;rcases List.mem_append.1 hy with hy | hy
 ·exact h y hy
 ·exact k y hy
theorem Bt.take {a:List Int}(h:Bt a)(n:Nat):Bt (a.take n):=fun y hy=>h y (List.mem_of_mem_take hy)
theorem Bt.drop (h:Bt a)(n:Nat):Bt (a.drop n):=fun y hy=>h y (List.mem_of_mem_drop hy)
theorem Bt.getD {a:List Int}(h:Bt a)(i:Nat):0<=a.getD i 0/\a.getD i 0<=255:=by
 by_cases hi:i<a.length
 ·have:=h a[i] (List.getElem_mem hi)
  simpa [List.getD,List.getElem?_eq_getElem hi] using this
 ·simp [List.getD,List.getElem?_eq_none (Nat.le_of_not_lt hi)]
theorem ai.kept {row:Option Nat}(h:ai w ao n cap zs)(hg:w.grownBy w' row)
  (hne:∀ ad,ao=some ad->0<n->some ad.block≠row):ai w' ao n cap zs:=by
 refine ⟨h.len,h.nil,fun ad had j u hu=>?_⟩;have hj:j<zs.length:=by have:=(List.getElem?_eq_some_iff.1 hu).1;simpa using this
 have hc:=h.cells ad had j u hu;refine hg.cell hc ?_;have hb:(ad.add j).block=ad.block:=by unfold Addr.add;split <;> rfl
 rw [hb];exact hne ad had (by have:=h.len;omega)
theorem ai.ae (h:ai w ao n cap zs)(hg:w.grownBy w' none):ai w' ao n cap zs :=
 h.kept hg (fun _ _ _=>by simp)
theorem ai.empty (w:World):ai w none 0 0 []:=⟨rfl,fun _=>⟨rfl,rfl⟩,fun _ h=>by cases h⟩
theorem ai.at {w:World}(h:ai w ao n cap zs)(hn:0<n) :
  ∃ b off,ao=some ⟨b,off,none⟩/\b<w.heap.size/\∀ i,i<n->w.cell? ⟨b,off+i,none⟩=some (.int .u8 (zs.getD i 0)):=by
 cases ao with
 | none=>have:=(h.nil rfl).1;omega
 | some ad =>
  have hl:=h.len
  have mq:∀ i,i<n->(zs.map (Value.int .u8))[i]?=some (.int .u8 (zs.getD i 0)):=by
   intro i hi;have:i<zs.length:=by omega
   simp [List.getD,List.getElem?_eq_getElem this]
  have h0:=h.cells ad rfl 0 _ (mq 0 hn);obtain ⟨b,off,spot⟩:=ad;have hs:spot=none:=by simpa [Addr.add] using World.cell?_spot h0
  subst hs;refine ⟨b,off,rfl,?_,fun i hi=>?_⟩
  ·have:=World.block_lt_of_cell? w _ h0;simpa [Addr.add] using this
  ·have:=h.cells _ rfl i _ (mq i hi);rwa [Addr.add_lit] at this
theorem ai.eZ {off:Nat}(hl:zs.length=n)(h:∀ i,i<n->w.cell? ⟨b,off+i,none⟩=some (.int .u8 (zs.getD i 0))):ai w (some ⟨b,off,none⟩) n cap zs:=by
 refine ⟨hl,fun e=>(by cases e),fun ad had j u hu=>?_⟩;obtain rfl:=Option.some.inj had;have hj:j<zs.length:=by have:=(List.getElem?_eq_some_iff.1 hu).1;simpa using this
 have hv:u=.int .u8 (zs.getD j 0):=by
  have e:(zs.map (Value.int .u8))[j]?=some (.int .u8 (zs.getD j 0)):=by simp [List.getD,List.getElem?_eq_getElem hj]
  rw [e] at hu;exact (Option.some.inj hu).symm
 rw [hv,Addr.add_lit];exact h j (by omega)
theorem ai.aP {base g:Nat}{e:TypeId}(h:w.ownsRow base e 1 (.slice (some ⟨g,0,none⟩) n cap) n (zs.map (Value.int .u8))):ai w (some ⟨g,0,none⟩) n cap zs:=by
 have hl:zs.length=n:=by have:=h.1;simpa using this
 refine ai.eZ hl fun i hi=>?_
 have:=h.cellAt i (by omega);rw [Nat.zero_add,this];have hz:i<zs.length:=by omega
 simp [List.getD,List.getElem?_eq_getElem hz]
theorem ai.lit (w:World)(e:TypeId)(cs:Array Value)(zs:List Int)(n:Nat)(hn:n=zs.length)(h:cs=(zs.map (Value.int .u8)).toArray):ai (w.alloc (.cells cs e)) (some ⟨w.heap.size,0,none⟩) n n zs:=by
 subst h hn;refine ai.eZ rfl fun i hi=>?_
 rw [Nat.zero_add];have:=cell_of_row (w.alloc (.cells (zs.map (Value.int .u8)).toArray e)) w.heap.size i _ e (0,0) (heap_alloc_new w _);rw [this];simp [List.getD,List.getElem?_eq_getElem hi]
theorem ai.take (h:ai w ao n cap zs)(m cap':Nat)(hm:m<=n)(hc:ao=none->cap'=0):ai w ao m cap' (zs.take m):=by
 refine ⟨by have:=h.len;rw [List.length_take];omega,fun e=>⟨by have:=(h.nil e).1;omega,hc e⟩,fun ad had j u hu=>?_⟩;refine h.cells ad had j u ?_;rw [List.map_take,List.getElem?_take] at hu
 split at hu
 ·exact hu
 ·cases hu
theorem Ds {a:Option Addr}{len:Nat}{zs:List Int}
  (h:(a=none/\len=0/\cap=0/\zs=[])∨∃ x,a=some x/\len<=cap/\cap<=maxLen/\zs.length=cap/\(∀ i,i<zs.length->w.cell? (x.add i)=some (.int .u8 (zs.getD i 0)))/\∀ n∈zs,(Lit.int .u8 n).wf=true) :
  ai w a len cap (zs.take len)/\Bt (zs.take len)/\len<=cap/\cap<=9223372036854775807:=by
 rcases h with ⟨rfl,rfl,rfl,rfl⟩ | ⟨x,rfl,hl,hm,hz,hc,hw⟩
 ·exact ⟨ai.empty w,Bt.nil,Nat.le_refl _,by omega⟩
 ·refine ⟨⟨by rw [List.length_take];omega,(fun e=>by cases e),fun ad had j u hu=>?_⟩,fun z hz=>bounds_u8 (hw z (List.mem_of_mem_take hz)),hl,by unfold maxLen at hm;omega⟩
  obtain rfl:=Option.some.inj had;rw [List.map_take,List.getElem?_take] at hu
  split at hu
  ·have hj:j<zs.length:=by have:=(List.getElem?_eq_some_iff.1 hu).1;simpa using this
   have e:(zs.map (Value.int .u8))[j]?=some (.int .u8 (zs.getD j 0)):=by simp [List.getD,List.getElem?_eq_getElem hj]
   rw [e] at hu;rw [<- Option.some.inj hu];exact hc j hj
  ·cases hu
def zW (r:Nat):Nat:=if r % 2=1 then (r / 2) ^^^ 3988292384 else r / 2
def aX:Nat->Nat->Nat
 | 0,r=>r
 | n+1,r=>aX n (zW r)
def runs (r:Nat)(zs:List Int):Nat:=zs.foldl (fun r z=>aX 8 (r ^^^ z.toNat)) r
theorem gD (r:Nat):runs r []=r:=by unfold runs;rw [List.foldl_nil]
theorem dG (r:Nat)(z:Int)(zs:List Int):runs r (z::zs)=runs (aX 8 (r ^^^ z.toNat)) zs:=by unfold runs;rw [List.foldl_cons]
def upd (c:Nat)(zs:List Int):Nat:=4294967295 - runs (4294967295 - c) zs
def tab:List Nat:=[0,498536548,997073096,651767980,1994146192,1802195444,1303535960,1342533948,3988292384,4027552580,3604390888,3412177804,2607071920,2262029012,2685067896,3183342108]
def fe (s:Nat):List Int:=[((s % 256:Nat):Int),((s / 256 % 256:Nat):Int),((s / 65536 % 256:Nat):Int),((s / 16777216 % 256:Nat):Int)]
theorem LS (a b:Nat):(a ^^^ b) / 2=(a / 2) ^^^ (b / 2):=Nat.xor_div_two
theorem LU (a b:Nat):(a ^^^ b) % 2=(a % 2) ^^^ (b % 2):=by
 have:=@Nat.xor_mod_two_pow a b 1;simpa using this
theorem Qb (a b:Nat):zW (a ^^^ b)=zW a ^^^ zW b:=by
 unfold zW;rw [LS,LU];rcases Nat.mod_two_eq_zero_or_one a with ha | ha <;> rcases Nat.mod_two_eq_zero_or_one b with hb | hb <;> rw [ha,hb] <;> simp
 ·rw [Nat.xor_assoc]
 ·rw [Nat.xor_assoc,Nat.xor_comm (b / 2),<- Nat.xor_assoc]
 ·rw [Nat.xor_assoc,Nat.xor_comm 3988292384,Nat.xor_assoc,Nat.xor_self,Nat.xor_zero]
theorem sZ:∀ (n a b:Nat),aX n (a ^^^ b)=aX n a ^^^ aX n b
 | 0,_,_=>rfl
 | n+1,a,b=>by rw [aX,aX,aX,Qb,sZ n]
theorem aC:∀ (m n r:Nat),aX (m+n) r=aX n (aX m r)
 | 0,n,r=>by rw [Nat.zero_add];rfl
 | m+1,n,r=>by rw [Nat.succ_add,aX,aX,aC m n]
theorem Qc (k:Nat):zW (2*k)=k:=by unfold zW;rw [if_neg (by omega)];omega
theorem td:∀ (n k:Nat),aX n (2 ^ n*k)=k
 | 0,k=>by rw [aX];omega
 | n+1,k=>by rw [aX,show 2 ^ (n+1)*k=2*(2 ^ n*k) by rw [Nat.pow_succ];ac_rfl,Qc,td n]
theorem LV {r:Nat}(h:r<4294967296):zW r<4294967296:=by
 unfold zW
 split
 ·have:=@Nat.xor_lt_two_pow (r / 2) 3988292384 32 (by omega) (by omega)
  simpa using this
 ·omega
theorem sq:∀ (n:Nat) {r:Nat},r<4294967296->aX n r<4294967296
 | 0,_,h=>h
 | n+1,_,h=>sq n (LV h)
theorem Dt{a:Nat}(ha:a<4294967296)(hb:b<4294967296):a ^^^ b<4294967296:=by
 have:=@Nat.xor_lt_two_pow a b 32 (by simpa using ha) (by simpa using hb);simpa using this
theorem Qd:∀ i,i<16->aX 4 i=tab.getD i 0:=by decide
theorem Vq:∀ i,tab.getD i 0<4294967296:=by
 intro i
 by_cases h:i<16
 ·revert i;decide
 ·rw [List.getD,List.getElem?_eq_none (by simp [tab];omega)];decide
theorem wN (n r:Nat):r=(2 ^ n*(r / 2 ^ n)) ^^^ (r % 2 ^ n):=by
 apply Nat.eq_of_testBit_eq;intro i;rw [Nat.testBit_xor,Nat.testBit_mod_two_pow,Nat.mul_comm,Nat.testBit_mul_two_pow,Nat.testBit_div_two_pow]
 by_cases h:n<=i
 ·have:¬ i<n:=by omega
  simp [h,this,Nat.sub_add_cancel h]
 ·have:i<n:=by omega
  simp [h,this]
theorem Du (r:Nat):aX 4 r=(r / 16) ^^^ tab.getD (r % 16) 0:=by
 have e:=wN 4 r;have h:=congrArg (aX 4) e;rw [sZ,td] at h;rw [h,Qd _ (by have:=Nat.mod_lt r (show 2 ^ 4 > 0 by decide);simpa using this)]
theorem not_xor {c:Nat}(h:c<4294967296):4294967295 - c=4294967295 ^^^ c:=by
 apply Nat.eq_of_testBit_eq;intro i;have h1:=@Nat.testBit_two_pow_sub_succ c 32 (by simpa using h) i;have h2:=@Nat.testBit_two_pow_sub_one 32 i;rw [Nat.testBit_xor,show (4294967295:Nat) - c=2 ^ 32 - (c+1) by omega,h1,show (4294967295:Nat)=2 ^ 32 - 1 by decide,h2]
 by_cases hi:i<32
 ·simp [hi]
 ·have:c.testBit i=false:=Nat.testBit_lt_two_pow (Nat.lt_of_lt_of_le (show c<2 ^ 32 by simpa using h) (Nat.pow_le_pow_right (by decide) (by omega)))
  simp [hi,this]
def Bts (zs:List Int):Prop:=∀ z∈zs,0<=z/\z<=255
theorem ny:∀ (a b:List Int) (r:Nat),runs r (a++b)=runs (runs r a) b
 | [],b,r=>by rw [List.nil_append,gD]
 | z::a,b,r=>by rw [List.cons_append,dG r z (a++b),dG r z a,ny a b]
theorem su:∀ {zs:List Int} {r:Nat},Bts zs->r<4294967296->runs r zs<4294967296
 | [],_,_,h=>by rw [gD];exact h
 | z::zs,r,hb,h=>by
  rw [dG];have hz:=hb z (List.mem_cons_self ..);exact su (fun y hy=>hb y (List.mem_cons_of_mem _ hy)) (sq 8 (Dt h (by omega)))
theorem tj (c:Nat)(zs:List Int):upd c zs<4294967296:=by unfold upd;omega
theorem xO (r s:Nat):aX 8 (r ^^^ s)=aX 8 (r ^^^ (s % 256)) ^^^ (s / 256):=by
 have e:=wN 8 s
 conv=>lhs;rw [e]
 rw [show (2:Nat) ^ 8=256 by decide,Nat.xor_comm (256*(s / 256)),<- Nat.xor_assoc,sZ];have h8:=td 8 (s / 256);rw [show (2:Nat) ^ 8=256 by decide] at h8;rw [h8]
theorem Iq (r s:Nat)(h:s<4294967296):runs r (fe s)=aX 32 (r ^^^ s):=by
 unfold fe;rw [dG,dG,dG,dG,gD];simp only [Int.toNat_natCast];rw [show (32:Nat)=8+(8+(8+8)) by decide,aC,aC,aC];rw [xO r s,xO _ (s / 256),xO _ (s / 256 / 256),Nat.div_div_eq_div_mul,Nat.div_div_eq_div_mul];have:s / (256*256*256) % 256=s / (256*256*256):=by omega
 show _=aX 8 (_ ^^^ s / (256*256*256))
 rw [show (16777216:Nat)=256*256*256 by decide,this]
theorem Al (s:Nat):Bts (fe s):=by
 intro z hz;unfold fe at hz;simp only [List.mem_cons,List.not_mem_nil,or_false] at hz;omega
theorem behind (h:Bts zs):upd 0 (zs++fe (upd 0 zs))=558161692:=by
 have h1:runs 4294967295 zs<4294967296:=su h (by decide);unfold upd;rw [ny,Iq _ _ (by omega)];simp only [Nat.sub_zero];rw [not_xor h1,Nat.xor_comm 4294967295,<- Nat.xor_assoc,Nat.xor_self,Nat.zero_xor]
 decide
def YM (r:Nat):Nat:=Nat.xor (Nat.div r 2) (Nat.mul 3988292384 (Nat.mod r 2))
def xP:Nat->Nat->Nat
 | 0,r=>r
 | n+1,r=>xP n (YM r)
theorem Qe (r:Nat):YM r=zW r:=by
 unfold zW
 show (r / 2) ^^^ (3988292384*(r % 2))=_
 rcases Nat.mod_two_eq_zero_or_one r with h | h
 ·rw [h,if_neg (by decide),Nat.mul_zero,Nat.xor_zero]
 ·rw [h,if_pos rfl,Nat.mul_one]
theorem az:∀ (n r:Nat),xP n r=aX n r
 | 0,r=>by rw [xP,aX]
 | n+1,r=>by rw [xP,aX,az n,Qe]
theorem mr:∀ (n r:Nat),runs r (List.replicate n 0)=aX (8*n) r
 | 0,r=>by rw [List.replicate_zero,gD,Nat.mul_zero,aX]
 | n+1,r=>by
  rw [List.replicate_succ,dG,mr n,show 8*(n+1)=8+8*n by omega,aC];simp
set_option maxRecDepth 100000
theorem Vr:aX 2046 4294967295=2135418398:=by rw [<- az];decide +kernel
theorem Vs:aX 2046 2135418398=243187190:=by rw [<- az];decide +kernel
theorem Vt:aX 2046 243187190=4199673923:=by rw [<- az];decide +kernel
theorem Vu:aX 2046 4199673923=2418707354:=by rw [<- az];decide +kernel
theorem Vv:aX 2046 2418707354=1200705739:=by rw [<- az];decide +kernel
theorem Vw:aX 2046 1200705739=1973025496:=by rw [<- az];decide +kernel
theorem Vx:aX 2046 1973025496=2751258002:=by rw [<- az];decide +kernel
theorem Vy:aX 2046 2751258002=3240402356:=by rw [<- az];decide +kernel
theorem Vz:aX 2046 3240402356=2227774503:=by rw [<- az];decide +kernel
theorem VA:aX 2046 2227774503=3378770147:=by rw [<- az];decide +kernel
theorem Qf:aX 2046 3378770147=1138915294:=by rw [<- az];decide +kernel
theorem Qg:aX 2046 1138915294=1946035713:=by rw [<- az];decide +kernel
theorem Qh:aX 2046 1946035713=1844460268:=by rw [<- az];decide +kernel
theorem Qi:aX 2046 1844460268=613129821:=by rw [<- az];decide +kernel
theorem Qj:aX 2046 613129821=3196118415:=by rw [<- az];decide +kernel
theorem Qk:aX 2046 3196118415=2680486774:=by rw [<- az];decide +kernel
theorem Iu:aX 32736 4294967295=2680486774:=by
 rw [show (32736:Nat)=2046+(2046+(2046+(2046+(2046+(2046+(2046+(2046+(2046+(2046+(2046+(2046+(2046+(2046+(2046+(2046))))))))))))))) by decide];rw [aC,Vr,aC,Vs,aC,Vt,aC,Vu,aC,Vv,aC,Vw,aC,Vx,aC,Vy,aC,Vz,aC,VA,aC,Qf,aC,Qg,aC,Qh,aC,Qi,aC,Qj,Qk]
theorem Iw:upd 0 (List.replicate 4092 0)=1614480521:=by
 unfold upd;rw [mr,Nat.sub_zero,show 8*4092=32736 by decide,Iu]
theorem Ix:fe 1614480521=[137,4,59,96]:=by decide +kernel
def part (p M k:Nat):Nat:=p % 2 ^ (min k M)
end Go.Proofs.YtgldkdbkaachkaaGreatDoor
