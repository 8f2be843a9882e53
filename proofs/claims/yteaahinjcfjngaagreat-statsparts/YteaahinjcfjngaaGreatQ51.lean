import Derived.Test.YteaahinjcfjngaaGreatQ50
import Derived.Test.YteaahinjcfjngaaGreatQ42
set_option maxRecDepth 100000
set_option maxHeartbeats 8000000
namespace Go.Proofs.YteaahinjcfjngaaGreat
open Go.RowKit
def MdP (w:World)(xs:List RnT)(en:Ending)(w':World):Prop:=((∃ p t,en=.returned (.pointer (some ⟨p,0,none⟩))/\TreeT w' p t/\BkR xs t/\xs.length<=3000)∨en=.returned (.pointer none))/\w.grownBy w' none
theorem made_any (a:Option Addr)(n c:Nat)(xs:List RnT)(w:World)(hx:RnU w a xs)(hn:xs.length=n)(hb:∀ x∈xs,RnB x) :
  Calls Tryz.prog 10 #[.slice a n c] w fun en w'=>MdP w xs en w':=by
 by_cases hlt:n<=3000
 ·have BU:=hZq (build_u a n c xs w hx hn (by omega) hb)
  have h1:¬ (3000:Int)<(n:Int):=by omega
  have HN:=hZq hn;have HLT:=hZq hlt;clear hx hb hn;go_enter Tryz.func10,Tryz.ntmps10
  go_wp2_with fail
  refine BU.out.mono ?_;rintro en w1 ⟨⟨p,t,rfl,ht,hbk⟩ | ⟨rfl,_⟩,hg⟩
  ·have HT:=hZq ht
   have HB:=hZq hbk;have G:=hZq hg;clear ht hbk hg BU;go_wp2;go_ret;exact ⟨.inl ⟨p,t,rfl,HT.out,HB.out,by have:=HN.out;have:=HLT.out;omega⟩,G.out⟩
  ·have G:=hZq hg
   clear hg BU;go_wp2;go_ret;exact ⟨.inr rfl,G.out⟩
 ·have h1:(3000:Int)<(n:Int):=by omega
  clear hx hb hn hlt;go_enter Tryz.func10,Tryz.ntmps10;go_wp2;go_ret;exact ⟨.inr rfl,World.grownBy.refl _ _⟩
def ptI (n s:Nat):Nat:=min (s*n / 4092) (n - 1)
def ptC (n:Nat)(L:List Nat)(i:Nat):Nat:=(L.filter fun s=>decide (ptI n s=i)).length
def ptL (n:Nat)(L:List Nat):List Int:=(List.range n).map fun i=>((ptC n L i:Nat):Int)
theorem ptL_len (n:Nat)(L:List Nat):(ptL n L).length=n:=by
 unfold ptL;rw [List.length_map,List.length_range]
theorem ptI_lt {n:Nat}(h:0<n)(s:Nat):ptI n s<n:=by
 unfold ptI;have:=Nat.min_le_right (s*n / 4092) (n - 1);omega
theorem ptL_at {n:Nat}(L:List Nat){i:Nat}(h:i<n):(ptL n L)[i]?=some ((ptC n L i:Nat):Int):=by
 unfold ptL;rw [List.getElem?_map,List.getElem?_range h]
 rfl
theorem ptC_snoc (n:Nat)(L:List Nat)(s i:Nat):ptC n (L++[s]) i=if ptI n s=i then ptC n L i+1 else ptC n L i:=by
 unfold ptC;rw [List.filter_append,List.length_append]
 by_cases h:ptI n s=i
 ·rw [if_pos h,List.filter_cons_of_pos (by simpa using h)]
  rfl
 ·rw [if_neg h,List.filter_cons_of_neg (by simpa using h)]
  rfl
theorem ptL_snoc {n:Nat}(h:0<n)(L:List Nat)(s:Nat):ptL n (L++[s])=(ptL n L).set (ptI n s) (((ptC n L (ptI n s):Nat):Int)+1):=by
 apply List.ext_getElem?;intro i;rw [List.getElem?_set]
 by_cases hi:i<n
 ·rw [ptL_at _ hi,ptC_snoc]
  by_cases e:ptI n s=i
  ·rw [if_pos e,if_pos e,if_pos (by rw [ptL_len];omega),e]
   rfl
  ·rw [if_neg e,if_neg e,ptL_at _ hi]
 ·rw [List.getElem?_eq_none (by rw [ptL_len];omega)]
  have:=ptI_lt h s;rw [if_neg (by omega),List.getElem?_eq_none (by rw [ptL_len];omega)]
theorem ptC_le (n:Nat)(L:List Nat)(i:Nat):ptC n L i<=L.length:=List.length_filter_le _ _
theorem ptL_nil (n:Nat):ptL n []=List.replicate n 0:=by
 apply List.ext_getElem?;intro i
 by_cases hi:i<n
 ·rw [ptL_at _ hi,List.getElem?_replicate,if_pos hi]
  rfl
 ·rw [List.getElem?_eq_none (by rw [ptL_len];omega),List.getElem?_replicate,if_neg hi]
theorem parts_bad (p:Nat)(n:Int)(w:World)(hn:n<1∨1000<n) :
  Calls Tryz.prog 21 #[.pointer (some ⟨p,0,none⟩),.int .i64 n] w fun en w'=>en=.returned (.tuple #[.slice none 0 0,.int .i64 220])/\w.grownBy w' none:=by
 by_cases h1:n<1
 ·go_enter Tryz.func21,Tryz.ntmps21
  go_wp2
  go_ret2
  exact ⟨rfl,World.grownBy.refl _ _⟩
 ·have h2:1000<n:=by omega
  go_enter Tryz.func21,Tryz.ntmps21;go_wp2
  go_ret2
  exact ⟨rfl,World.grownBy.refl _ _⟩
theorem parts_any (t:Option TrT)(p n:Nat)(w:World)(ht:TreeT w p t)(h:TrS t)(hn:1<=n)(hn2:n<=1000) :
  Calls Tryz.prog 21 #[.pointer (some ⟨p,0,none⟩),.int .i64 (n:Nat)] w fun en w'=>∃ g,en=.returned (.tuple #[.slice (some ⟨g,0,none⟩) n n,.int .i64 0])/\w.heap.size<=g/\w'.ownsRow g 3 1 (.slice (some ⟨g,0,none⟩) n n) n ((ptL n (lfN t)).map (Value.int .i64))/\w.grownBy w' none:=by
 obtain ⟨i0,hi,hz0,hz1,hz2⟩:=info_parts info_i10;have LS:=hZq (fun (W:World) (hW:w.grownBy W none)=>leafSizes_any t p W (ht.kept (FrT.of hW)) h);have HT:=hZq h
 have HFN:Hid (lfZ t=(lfN t).map fun s=>((s:Nat):Int)):=by
  show _=_
  unfold lfZ lfN;rw [List.map_map]
  rfl
 have HLL:Hid ((lfN t).length<=100000):=by
  have h1:=atL_len (tellO t) 0;have h2:=h.ln
  show (lfN t).length<=_
  unfold lfN;rw [List.length_map];omega
 have HSB:Hid (∀ s∈lfN t,s<=4092):=fun s hs=>by
  obtain ⟨x,hx,rfl⟩:=List.mem_map.1 hs;exact (h.sz x (atL_mem hx)).hi
 clear ht h;have h1:¬ (n:Int)<1:=by omega
 have h2:¬ (1000:Int)<(n:Int):=by omega
 go_enter Tryz.func21,Tryz.ntmps21
 go_wp2_with (at_make;refine wpList_make_full _ rfl _ _ 30 rfl w.heap.size 3 i0 (.int .i64 0) 1 Tryz.underlying30 hi hz0 hz1 _ _ _ _ n rfl rfl rfl rfl ?b2 ?b3 (Nat.le_refl _) ?_)
 case b2=>first | omega | (rw [hz2];omega)
 case b3=>unfold maxLen;omega
 intro w3 ho3 hg3;obtain ⟨g,hg⟩:∃ g,w.heap.size=g:=⟨_,rfl⟩
 have O3:Hid (w3.ownsRow g 3 1 (.slice (some ⟨g,0,none⟩) n n) n ((ptL n []).map (Value.int .i64))):=by
  have ho4:=ho3
  (try rw [Nat.mul_one] at ho4)
  (try rw [show (Value.int IntKind.i64 0).cells=#[Value.int IntKind.i64 0] from rfl] at ho4)
  rw [toList_madeCells_one,hg] at ho4
  show w3.ownsRow _ _ _ _ _ _
  rw [ptL_nil];simpa using ho4
 rw [hg];have G3:=hZq hg3;have HG:=hZq hg;clear ho3 hg3 hg h1 h2
 go_wp2_with fail
 refine (LS.out w3 G3.out).mono ?_;rintro en w4 ⟨v,b,rfl,hbs,hch,hg4⟩;have O4:=hZq (O3.out.kept hg4 (by simp [Value.ownBlock]));have G4:=hZq (gZq G3.out hg4);obtain ⟨la,lc,rfl⟩:=hch.shape;have CH:=hZq hch;have HBS:=hZq hbs
 have HLC:Hid (∀ (k s:Nat),(lfN t)[k]?=some s->∃ lb,la=some ⟨lb,0,none⟩/\some lb≠some g/\w4.cell? ⟨lb,k,none⟩=some (.int .i64 (s:Nat))):=fun k s hs=>by
  have hk:=(List.getElem?_eq_some_iff.1 hs).1;rcases hch with ⟨h0,_⟩ | ⟨_,ho⟩
  ·rw [HFN.out] at h0
   have:=congrArg List.length h0;rw [List.length_map] at this;simp at this;rw [this] at hk;simp at hk
  ·have hz:(lfZ t)[k]?=some ((s:Nat):Int):=by rw [HFN.out,List.getElem?_map,hs];rfl
   have hkl:=(List.getElem?_eq_some_iff.1 hz).1
   obtain ⟨lb,hlb⟩:∃ lb,la=some ⟨lb,0,none⟩:=by
    rcases ho.2 with ⟨_,e0⟩ | ⟨g',cap,cur,e,_⟩
    ·rw [e0] at hkl
     simp at hkl
    ·injection e with e1
     exact ⟨g',e1⟩
   subst hlb;have h1:w3.heap.size<=lb:=Nat.le_trans HBS.out (own_lt10 ho rfl).1;have h2:g<w3.heap.size:=(own_lt10 O3.out rfl).2.1;refine ⟨lb,rfl,fun e=>by have h3:lb=g:=Option.some.inj e;omega,?_⟩;rw [ho.cellAt k (by omega),List.getElem?_map,hz]
   rfl
 have HLN:Hid ((lfZ t).length=(lfN t).length):=by
  show _=_
  rw [HFN.out,List.length_map]
 clear hbs HBS hch hg4 O3 G3 LS CH;obtain ⟨m,hm⟩:∃ m,(lfN t).length=m:=⟨_,rfl⟩;rw [hm] at HLL HLN;rw [HLN.out];have HM:=hZq hm;have hmb:=HLL.out;clear hm
 go_wp2_with fail
 go_loopw [20] (fun si wr=>∃ k:Nat,k<=m/\si=.int .i64 (k:Nat)/\wr.ownsRow g 3 1 (.slice (some ⟨g,0,none⟩) n n) n ((ptL n ((lfN t).take k)).map (Value.int .i64))/\w4.grownBy wr (some g)) (fun si _=>m - (intOf si).toNat)
 case atStart=>exact ⟨0,Nat.zero_le _,rfl,O4.out,World.grownBy.refl _ _⟩
 case round =>
  obtain ⟨k,hk,rfl,ho,hgr⟩:=hrel;have HO:=hZq ho;have GR:=hZq hgr;clear ho hgr
  by_cases hlt:k<m
  ·obtain ⟨s,hx⟩:∃ s,(lfN t)[k]?=some s:=⟨_,List.getElem?_eq_getElem (by have:=HM.out;omega)⟩
   obtain ⟨lb,rfl,hne,hc⟩:=HLC.out k s hx;have c1:=GR.out.cell hc hne;have hs:=HSB.out s (List.mem_of_getElem? hx);have HT2:Hid ((lfN t).take (k+1)=(lfN t).take k++[s]):=by show _=_;rw [List.take_add_one,hx];rfl
   have hj:=ptI_lt (n:=n) (by omega) s
   have hcnt:ptC n ((lfN t).take k) (ptI n s)<=100000:=by
    have h1:=ptC_le n ((lfN t).take k) (ptI n s);rw [List.length_take] at h1;omega
   have HSN:=hZq (ptL_snoc (n:=n) (by omega) ((lfN t).take k) s);rw [<- HT2.out] at HSN;obtain ⟨pr,hpr⟩:∃ pr,s*n=pr:=⟨_,rfl⟩;have hprb:pr<=4092000:=by rw [<- hpr];exact Nat.mul_le_mul hs hn2
   have e1:(s:Int)*(n:Int)=(pr:Int):=by rw [<- hpr];omega
   have hjd:ptI n s=min (pr / 4092) (n - 1):=by unfold ptI;rw [hpr]
   obtain ⟨j,hjj⟩:∃ j,ptI n s=j:=⟨_,rfl⟩;rw [hjj] at hj hcnt HSN hjd;obtain ⟨cn,hcn⟩:∃ c,ptC n ((lfN t).take k) j=c:=⟨_,rfl⟩
   have c2:wr.cell? ⟨g,j,none⟩=some (.int .i64 (cn:Nat)):=by
    rw [HO.out.cellAt j (by omega),List.getElem?_map,ptL_at _ hj,hcn]
    rfl
   rw [hcn] at hcnt HSN;have f2:=HO.out.frozenAt j;have ST:=hZq (HO.out.stored j (.int .i64 ((cn:Int)+1)));rw [<- List.map_set,<- HSN.out] at ST;clear hx hc hpr hcn hjj HT2 hs HSN;have i0:(0:Int)<=(k:Int):=by omega
   have i1:(k:Int)<(m:Int):=by omega
   by_cases hle:pr / 4092<=n - 1
   ·obtain rfl:j=pr / 4092:=by omega
    have m1:min ((pr:Int) / 4092) ((n:Int) - 1)=(pr:Int) / 4092:=by omega
    have HLE:=hZq hle;clear hjd
    go_wp2_with fail
    refine ⟨⟨k+1,by omega,by go_num,ST.out.1,gZq GR.out ST.out.2⟩,?_⟩;simp [intOf];omega
   ·obtain rfl:j=n - 1:=by omega
    have m1:min ((pr:Int) / 4092) ((n:Int) - 1)=((n - 1:Nat):Int):=by omega
    have HLE:=hZq hle;clear hjd hle
    go_wp2_with fail
    refine ⟨⟨k+1,by omega,by go_num,ST.out.1,gZq GR.out ST.out.2⟩,?_⟩;simp [intOf];omega
  ·obtain rfl:k=m:=by omega
   have e:(lfN t).take k=lfN t:=by rw [<- HM.out,List.take_length]
   rw [e] at HO;go_wp2
   go_ret2
   exact ⟨g,rfl,Nat.le_of_eq HG.out,HO.out,grown_new G4.out GR.out (Nat.le_of_eq HG.out)⟩
theorem lfn_len (t:Option TrT):(lfN t).length=(atL (tellO t) 0).length:=List.length_map _
theorem one22:(4607182418800017408:Nat)=oneF:=by decide +kernel
end Go.Proofs.YteaahinjcfjngaaGreat
