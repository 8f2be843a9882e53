import Derived.Test.YteaahinjcfjngaaGreatQ41
import Derived.Lib.SlKeysI
import Derived.Test.YteaahinjcfjngaaGreatQ49
set_option maxRecDepth 100000
set_option maxHeartbeats 16000000
namespace Go.Proofs.YteaahinjcfjngaaGreat
open Go.RowKit Go.Maps Go.Sort Go.Shelf
def srt22 (us:List Int):List Int:=us.mergeSort fun x y=>decide (x<=y)
theorem srt22_len (us:List Int):(srt22 us).length=us.length:=by simp [srt22]
theorem srt22_mem {us:List Int}{x:Int}(h:x∈srt22 us):x∈us:=by
 unfold srt22 at h;exact List.mem_mergeSort.1 h
theorem srt22_rise (us:List Int):(srt22 us).Pairwise fun x y=>x<=y:=by
 have h:=List.pairwise_mergeSort (le:=fun x y:Int=>decide (x<=y)) (fun a b c h1 h2=>by simp at *;omega) (fun a b=>by simp;omega) us;exact h.imp (fun k=>by simpa using k)
theorem sort22 {base:Nat}{v:Value}{us:List Int}(w:World)(h:w.ownsRow base 3 1 v us.length (us.map (Value.int .i64)))(hs:us.length<4611686018427387904) :
  Calls Tryz.prog 48 #[v] w fun e w'=>e=.returned (.tuple #[])/\w'.ownsRow base 3 1 v us.length ((srt22 us).map (Value.int .i64))/\w.grownBy w' v.ownBlock:=by
 rcases h.2 with ⟨rfl,h0⟩ | ⟨g,cap,cur,rfl,hb,hc,h1,h2,h3,h4⟩
 ·have e:us=[]:=List.length_eq_zero_iff.1 h0
  subst e;refine (AnyM.slices_Sort_int_none sortA none 0 w).mono ?_;rintro e w' ⟨rfl,rfl⟩;exact ⟨rfl,by simpa [srt22] using h,World.grownBy.refl _ _⟩
 ·have hH:Holds (Value.int .i64) w g 0 us.toArray:=holds_of_block_i hc (by simpa using h4)
  refine (AnyM.slices_Sort_int sortA g 0 cap us w hH (Array.getElem?_eq_some_iff.1 hc).1 hs).mono ?_;rintro e w' ⟨rfl,n,os,rfl⟩;exact ⟨rfl,ownsRow_sorted_i (srt22_len us) hb hc h1 h2 h3,grownBy_sorted_i _⟩
def srS (t:Option TrT)(i:Nat):Nat:=((srt22 (lfZ t)).getD i 0).toNat
theorem lfz_mem {t:Option TrT}(h:TrS t){z:Int}(hz:z∈lfZ t):5<=z/\z<=4092:=by
 unfold lfZ at hz;obtain ⟨x,hx,rfl⟩:=List.mem_map.1 hz;have h1:=(h.sz x (atL_mem hx)).hi;have h2:=(h.sz x (atL_mem hx)).lo;omega
theorem srs_at {t:Option TrT}(h:TrS t){i:Nat}(hi:i<(lfZ t).length):(srt22 (lfZ t))[i]?=some ((srS t i:Nat):Int)/\5<=srS t i/\srS t i<=4092:=by
 have hl:=srt22_len (lfZ t);have e:(srt22 (lfZ t))[i]?=some ((srt22 (lfZ t))[i]'(by omega)):=List.getElem?_eq_getElem (by omega);have h1:=lfz_mem h (srt22_mem (List.mem_of_getElem? e))
 have e2:srS t i=((srt22 (lfZ t))[i]'(by omega)).toNat:=by
  unfold srS;simp [List.getD,e]
 rw [e,e2];exact ⟨congrArg some (by omega),by omega,by omega⟩
theorem srs_rise {t:Option TrT}(h:TrS t){a b:Nat}(hab:a<=b)(hb:b<(lfZ t).length):srS t a<=srS t b:=by
 rcases Nat.lt_or_eq_of_le hab with h1 | rfl
 ·have hp:=srt22_rise (lfZ t)
  have hl:=srt22_len (lfZ t);have h2:=List.pairwise_iff_getElem.1 hp a b (by omega) (by omega) h1;have e1:=(srs_at h (show a<(lfZ t).length by omega)).1;have e2:=(srs_at h hb).1;rw [List.getElem?_eq_getElem (by omega)] at e1 e2;have f1:=Option.some.inj e1;have f2:=Option.some.inj e2;omega
 ·exact Nat.le_refl _
def qtV (t:Option TrT)(q:Nat):Nat:=if lfZ t=[] then 0 else shW (qqW (srS t) q ((lfZ t).length - 1))
def qtE (t:Option TrT):Int:=if lfZ t=[] then 222 else 0
theorem qq_lt {S:Nat->Nat}{q L:Nat}(hq:ShF q)(hL:L<=100000)(hm:∀ a b,a<=b->b<=L->S a<=S b)(hb:S L<100000):qqW S q L<infF:=by
 have hL2:L<2 ^ 53:=Nat.lt_of_le_of_lt hL (by decide);have small:∀ k:Nat,k<100000->k<2 ^ 53/\k<2 ^ 52:=fun k hk=>⟨Nat.lt_trans hk (by decide),Nat.lt_trans hk (by decide)⟩
 rcases hq with hq | rfl
 ·obtain ⟨_,_,h3,_⟩:=pp_some hq hL2
  unfold qqW
  by_cases e:ipW q L=L
  ·rw [if_pos e]
   exact in_lt (small _ hb).1
  ·rw [if_neg e]
   have h1:=hm (ipW q L) (ipW q L+1) (by omega) (by omega);have h2:=hm (ipW q L+1) L (by omega) (Nat.le_refl _);exact (hh_some hq hL2 (small _ (show S (ipW q L+1) - S (ipW q L)<100000 by omega)).2 (small _ (show S (ipW q L)<100000 by omega)).2).2.2.2.2
 ·rw [qq_neg hL hm hb]
  have h1:=hm 0 L (Nat.zero_le _) (Nat.le_refl _);exact in_lt (small _ (show S 0<100000 by omega)).1
theorem sh_ord {q:Nat}(hq:ShF q):FloatKind.f64.format.order q q=some .eq/\(FloatKind.f64.format.order q 0=some .lt->False)/\(FloatKind.f64.format.order q 4607182418800017408=some .gt->False):=by
 have e:(4607182418800017408:Nat)=oneF:=by decide +kernel
 rcases hq with hq | rfl
 ·have h1:q<=infF:=Nat.le_trans hq (Nat.le_of_lt one_lt)
  have a1:FloatKind.f64.format.order q q=some (compare q q):=order_rung h1 h1;have a2:FloatKind.f64.format.order q 0=some (compare q 0):=order_rung h1 (Nat.zero_le _);have a3:FloatKind.f64.format.order q oneF=some (compare q oneF):=order_rung h1 (Nat.le_of_lt one_lt);rw [e,a1,a2,a3];refine ⟨congrArg some (Nat.compare_eq_eq.2 rfl),fun h=>?_,fun h=>?_⟩
  ·have:=Nat.compare_eq_lt.1 (Option.some.inj h)
   omega
  ·have:=Nat.compare_eq_gt.1 (Option.some.inj h)
   omega
 ·exact ⟨by decide +kernel,by decide +kernel,by decide +kernel⟩
theorem isnan_any (q:Nat)(b:Bool)(w:World)(h:(FloatKind.f64.format.order q q != some .eq)=b):Calls Tryz.prog 47 #[.float .f64 q] w fun en w'=>en=.returned (.bool b)/\w'=w:=by
 go_enter Tryz.func47,Tryz.ntmps47;go_wp2;go_ret;exact ⟨rfl,rfl⟩
theorem quantile_any (t:Option TrT)(p q:Nat)(w:World)(ht:TreeT w p t)(h:TrS t)(hq:ShF q) :
  Calls Tryz.prog 23 #[.pointer (some ⟨p,0,none⟩),.float .f64 q] w fun en w'=>en=.returned (.tuple #[.float .f64 (qtV t q),.int .i64 (qtE t)])/\w.grownBy w' none:=by
 obtain ⟨o1,o2,o3⟩:=sh_ord hq;have NA:=hZq (isnan_any q false w (by rw [o1];rfl))
 have e2:(FloatKind.f64.format.order q 0==some .lt)=false:=by
  rw [beq_eq_false_iff_ne];exact o2
 have e3:(FloatKind.f64.format.order q 4607182418800017408==some .gt)=false:=by
  rw [beq_eq_false_iff_ne];exact o3
 have LS:=hZq (leafSizes_any t p w ht h);have HT:=hZq h;have HQ:=hZq hq
 have hll:(lfZ t).length<=100000:=by
  rw [lfz_len];exact Nat.le_trans (atL_len _ _) h.ln
 have HLL:=hZq hll;clear ht h o1 o2 o3 hq hll;go_enter Tryz.func23,Tryz.ntmps23
 go_wp2_with fail
 refine NA.out.mono ?_;rintro en w1 ⟨rfl,rfl⟩
 go_wp2_with fail
 refine LS.out.mono ?_;rintro en w2 ⟨v,b,rfl,hbs,hch,hg2⟩;have G2:=hZq hg2;have HBS:=hZq hbs;clear hg2 hbs LS NA e2 e3;rcases hch with ⟨h0,ca,rfl⟩ | ⟨h0,ho⟩
 ·have HV:Hid (qtV t q=0/\qtE t=222):=⟨if_pos h0,if_pos h0⟩
  clear h0;go_wp2
  go_ret2
  exact ⟨by rw [HV.out.1,HV.out.2];rfl,G2.out⟩
 ·have hne:lfZ t≠[]:=fun e=>by rw [e] at h0;simp at h0
  have HV:Hid (qtV t q=shW (qqW (srS t) q ((lfZ t).length - 1))/\qtE t=0):=⟨if_neg hne,if_neg hne⟩;have SO:=hZq (sort22 w2 ho (by have:=HLL.out;omega));obtain ⟨a2,c2,rfl⟩:=own_shape10 ho;have HOB:=hZq (fun (g:Nat) (e:(Value.slice a2 (lfZ t).length c2).ownBlock=some g)=>(own_lt10 ho e).1);clear ho hne;obtain ⟨n,hn⟩:∃ n,(lfZ t).length=n:=⟨_,rfl⟩;rw [hn] at h0 HV HLL SO;have HNN:=hZq hn;have hnb:=HLL.out;have hn0:((n:Int)==0)=false:=by simp;omega
  rw [hn];clear hn
  go_wp2_with fail
  refine SO.out.mono ?_;rintro en w3 ⟨rfl,ho3,hg3⟩;have G3:=hZq (grown_ownN G2.out hg3 (fun g e=>Nat.le_trans HBS.out (HOB.out g (by rw [HNN.out];exact e))))
  obtain ⟨g,hg0⟩:∃ g,a2=some ⟨g,0,none⟩:=by
   rcases ho3.2 with ⟨_,e0⟩ | ⟨g,cap,cur,e,_⟩
   ·omega
   ·injection e with e1
    exact ⟨g,e1⟩
  subst hg0
  have BT:=hZq (between_any g n c2 q (srS t) w3 h0 hnb (fun i hi=>by
   have h1:=ho3.cellAt i (by omega);rw [h1,List.getElem?_map,(srs_at HT.out (by rw [HNN.out];exact hi)).1]
   rfl) (fun a b hab hb=>srs_rise HT.out hab (by rw [HNN.out];exact hb)) (fun i hi=>by have:=(srs_at HT.out (show i<(lfZ t).length by rw [HNN.out];exact hi)).2.2;omega) HQ.out)
  clear ho3 hg3 SO HOB;have hqi:qqW (srS t) q (n - 1)<=infF:=Nat.le_of_lt (qq_lt (S:=srS t) (L:=n - 1) HQ.out (by omega) (fun a b hab hb=>srs_rise HT.out hab (by rw [HNN.out];omega)) (by have:=(srs_at HT.out (show n - 1<(lfZ t).length by rw [HNN.out];omega)).2.2;omega));obtain ⟨qv,hqv⟩:∃ v,qqW (srS t) q (n - 1)=v:=⟨_,rfl⟩;have BT0:=BT.out;rw [hqv] at BT0 HV hqi;have BT2:=hZq BT0;have hd:=fun (W:World)=>run_quo22 W (t:=26) (sh_some hqi).1
  rw [in4092] at hd;clear BT0 BT hqv hqi
  go_wp2_with fail
  refine BT2.out.mono ?_;rintro en w4 ⟨rfl,hg4⟩;have G4:=hZq (gZq G3.out hg4);clear hg4 BT2;go_wp2
  go_ret2
  exact ⟨by rw [HV.out.1,HV.out.2];rfl,G4.out⟩
end Go.Proofs.YteaahinjcfjngaaGreat
namespace Go.Proofs.YteaahinjcfjngaaGreat
open Go.RowKit
theorem told_le22:∀ (n k:Nat) (x:NdT n),∀ v∈tellT n k x,v.lv<=n
 | 0,k,x,v,hv=>by
  have e:v=⟨LfT.no x,0,LfT.ps x,[],[]⟩:=by simpa [tellT] using hv
  subst e;exact Nat.le_refl _
 | n+1,k,x,v,hv=>by
  rw [tellT,List.mem_append,List.mem_singleton] at hv;rcases hv with hv | rfl
  ·obtain ⟨y,k',hy,hyv⟩:=tellL_mem hv
   exact Nat.le_succ_of_le (told_le22 n k' y v hyv)
  ·exact Nat.le_refl _
theorem trs_none:TrS none:=⟨trivial,trivial,(fun x h=>by simp [tellO] at h),by simp [tellO],Nat.zero_le _,(fun i h=>by simp [highO] at h),(fun x h=>by simp [tellO] at h)⟩
theorem trs_of {t:Option TrT}(sok:OkO t)(sch:∀ p∈flatO t,p.chain.length<=65)(hl:(tellO t).length<=100000)(hh:highO t<=1000000):TrS t:=by
 match t,sok,sch,hl,hh with
 | none,_,_,_,_=>exact trs_none
 | some ⟨n,x⟩,sok,sch,hl,hh =>
  have hn:n+1<=1000000:=hh;have ok:OkT n x:=sok;have ch:∀ p∈flatT n x,p.chain.length<=65:=sch;refine ⟨ok,fun p hp=>Nat.le_trans (ch p hp) (by decide),told_sz n 0 x ok (by omega) (fun p hp=>Nat.le_trans (ch p hp) (by decide)),hl,hh,fun i hi=>?_,fun v hv=>Nat.lt_succ_of_le (told_le22 n 0 x v hv)⟩;have hi2:i<n+1:=hi;obtain ⟨v,h1,h2⟩:=told_lv n 0 x ok i (by omega);intro e;have h3:v∈atL (tellO (some ⟨n,x⟩)) i:=List.mem_filter.2 ⟨h1,by simpa using h2⟩;rw [e] at h3;cases h3
theorem trs_built {xs:List RnT}{t:Option TrT}(h:BkR xs t)(hn:xs.length<=3000):TrS t/\(tellO t).length=xs.length/\∀ t0,t=some t0->BlT xs t0:=by
 rcases h with ⟨rfl,rfl⟩ | ⟨t0,s',a,rfl,h1,h2,h3⟩
 ·exact ⟨trs_none,rfl,fun t0 e=>by cases e⟩
 ·have hI:=bd_all (l:=[]) (l2:=xs) BdI.start h1
  rw [List.nil_append] at hI;have hb:=bd_end hI h2 h3;have hl:=hb.ln;have hi:=hb.ag.hi;refine ⟨trs_of hb.sd.ok hb.sd.ch (by omega) (by show t0.lv+1<=_;omega),hl.symm,fun t1 e=>?_⟩;cases e;exact hb
def pA22:PrT:=⟨[97],[120],[]⟩
def pB22:PrT:=⟨[98],[121],[]⟩
def lA22:NdT 0:=(⟨0,[pA22]⟩:LfT)
def lB22:NdT 0:=(⟨0,[pA22,pB22]⟩:LfT)
def tA22:Option TrT:=some ⟨0,lA22⟩
def tB22:Option TrT:=some ⟨0,lB22⟩
theorem byte22 {z:Int}(h:0<=z/\z<256):Bt [z]:=fun x hx=>by
 rw [List.mem_singleton.1 hx];omega
theorem now22 {k v:Int}(hk:0<=k/\k<256)(hv:0<=v/\v<256):NowT [k] [⟨[k],[v],[]⟩]:=⟨by simp,fun p hp=>by rw [List.mem_singleton.1 hp],fun p hp=>by
 rw [List.mem_singleton.1 hp];exact ⟨Nat.le_refl 1,by show 1<=255;omega,by show 1<=262144;omega,byte22 hk,byte22 hv⟩⟩
theorem tA_eq:treeT none [97] [pA22]=some tA22:=by kernel_rfl
theorem tB_eq:treeT tA22 [98] [pB22]=some tB22:=by kernel_rfl
theorem vp22 {k v:Int}(hk:0<=k/\k<256)(hv:0<=v/\v<256):Vp ⟨[k],[v],[]⟩:=(now22 hk hv).vp _ (List.mem_singleton.2 rfl)
theorem vA22:Vp pA22:=vp22 (by omega) (by omega)
theorem vB22:Vp pB22:=vp22 (by omega) (by omega)
theorem tA_ok:OkT 0 lA22:=⟨by show [pA22]≠[];simp,by show Srt [pA22];exact List.pairwise_singleton _ _,by show size (its [pA22])<=4092;decide +kernel,fun p hp=>by
 have e:p∈[pA22]:=hp;rw [List.mem_singleton.1 e];exact vA22⟩
theorem tB_ok:OkT 0 lB22:=⟨by show [pA22,pB22]≠[];simp,by
 show Srt [pA22,pB22]
 exact List.Pairwise.cons (fun q hq=>by rw [List.mem_singleton.1 hq];decide +kernel) (List.pairwise_singleton _ _),by show size (its [pA22,pB22])<=4092;decide +kernel,fun p hp=>by
 have e:p∈[pA22,pB22]:=hp;rcases List.mem_cons.1 e with rfl | e2
 ·exact vA22
 ·rw [List.mem_singleton.1 e2]
  exact vB22⟩
theorem tB_len:(tellO tB22).length=1:=by kernel_rfl
theorem tB_high:highO tB22=1:=by kernel_rfl
theorem tB_s0:sumT kyN (tellO tB22)=2:=by kernel_rfl
theorem tB_s1:sumT kbN (tellO tB22)=2:=by kernel_rfl
theorem tB_s2:sumT vbN (tellO tB22)=2:=by kernel_rfl
theorem tB_s3:sumT pgN (tellO tB22)=1:=by kernel_rfl
theorem tB_s4:sumT usN (tellO tB22)=16:=by kernel_rfl
theorem tB_l0:(atL (tellO tB22) 0).length=1:=by kernel_rfl
theorem tB_l1:sumT nsz (atL (tellO tB22) 0)=16:=by kernel_rfl
theorem tB_l2:mnF (atL (tellO tB22) 0) 4092=16:=by kernel_rfl
theorem tB_l3:mxF (atL (tellO tB22) 0) 0=16:=by kernel_rfl
theorem tB_l4:sumT (sqN 16) (atL (tellO tB22) 0)=0:=by kernel_rfl
theorem tB_lf:lfZ tB22=[16]:=by kernel_rfl
theorem fill22:quW 16 (1*4092)=4571158024126730244:=by decide +kernel
theorem sp22:spW 0 1=0:=(sp_zero (by decide) (by decide) (by decide)).1.2 rfl
theorem tB_trs:TrS tB22:=trs_of tB_ok (fun p hp=>by
 have e:p∈[pA22,pB22]:=hp;rcases List.mem_cons.1 e with rfl | e2
 ·exact Nat.zero_le _
 ·rw [List.mem_singleton.1 e2];exact Nat.zero_le _) (by rw [tB_len];omega) (by rw [tB_high];omega)
theorem tB_sum:sumV (tellO tB22)=#[.int .i64 2,.int .i64 2,.int .i64 2,.int .i64 1,.int .i64 16,.float .f64 4571158024126730244]:=by
 unfold sumV;rw [tB_s0,tB_s1,tB_s2,tB_s3,tB_s4,if_neg (by decide),fill22]
 rfl
theorem tB_lvl:lvlsE (tellO tB22) 1=[[.int .i64 0,.int .i64 1,.int .i64 16,.int .i64 16,.int .i64 16,.float .f64 4571158024126730244,.float .f64 0]]:=by
 show [lvlE (tellO tB22) 0]=_
 unfold lvlE;rw [tB_l0,tB_l1,tB_l2,tB_l3,fill22,show 16 / 1=16 from rfl,tB_l4,sp22]
 rfl
theorem half22:ShF 4602678819172646912:=.inl (by decide +kernel)
theorem tB_qt:qtV tB22 4602678819172646912=4571158024126730244/\qtE tB22=0:=by
 have hne:lfZ tB22≠[]:=by rw [tB_lf];simp
 refine ⟨?_,if_neg hne⟩;unfold qtV;rw [if_neg hne,tB_lf]
 show shW (qqW (srS tB22) 4602678819172646912 0)=_
 have h1:ipW 4602678819172646912 0=0:=by
  have:=(btf half22 (L:=0) (by omega)).l;omega
 have h2:srS tB22 0=16:=by
  have h3:=(srs_at tB_trs (i:=0) (by rw [tB_lf];simp)).1;have h4:=srt22_mem (List.mem_of_getElem? h3);rw [tB_lf,List.mem_singleton] at h4;omega
 unfold qqW;rw [if_pos h1,h2,sh_in,<- fill22]
theorem num22 (z:Int)(w:World):Calls Tryz.prog 22 #[.int .i64 z] w fun en w'=>en=.returned (.int .i64 z)/\w'=w:=by
 go_enter Tryz.func22,Tryz.ntmps22;go_wp2;go_ret;exact ⟨rfl,rfl⟩
end Go.Proofs.YteaahinjcfjngaaGreat
namespace Go.Proofs.YteaahinjcfjngaaGreat
open Go.RowKit
theorem first22 (w:World):Calls Tryz.prog 9 #[] w fun en w'=>en=.returned (.bool true)/\w.grownBy w' none:=by
 have v1:=fun (W:World) (C:Array Value) (n c:Nat)=>conv10 W C n c _ rfl
 have v2:=fun (W:World) (C0 C:Array Value) (t:TypeId) (fr:Nat × Nat) (n c:Nat)=>conv10 (W.alloc (.cells C0 t fr)) C n c (W.heap.size+1) (by simp)
 have hsf:=store_f22;have TA:=hZq tA_eq;have TB:=hZq tB_eq;go_enter Tryz.func9,Tryz.ntmps9
 go_wp2_with fail
 refine (empty_any w).mono ?_;rintro en w1 ⟨p0,rfl,ht0,hg0⟩;have T0:=hZq ht0;have G0:=hZq hg0;clear ht0 hg0;have KA:=hZq (lit10 w1 5 (1,2) 97);have ga:=World.grownBy_alloc w1 (.cells #[.int .u8 97] 5 (1,2)) none;have gb:=World.grownBy_alloc (w1.alloc (.cells #[.int .u8 97] 5 (1,2))) (.cells #[.int .u8 120] 5 (1,2)) none;have KA2:=hZq (KA.out.keptN gb);have KB:=hZq (lit10 (w1.alloc (.cells #[.int .u8 97] 5 (1,2))) 5 (1,2) 120);have HSZ:Hid ((w1.alloc (.cells #[.int .u8 97] 5 (1,2))).heap.size=w1.heap.size+1):=by show _=_;simp
 rw [HSZ.out] at KB;have GB:=hZq (gZq G0.out (gZq ga gb));have T1:=hZq (T0.out.kept (FrT.of (gZq ga gb)));clear ga gb KA HSZ T0 G0
 go_wp2_with fail
 have WC:=with_any_of none (fun p ka kn kc key na nn nc now w h1 _ h3 h4 h5 h6=>tchanged_nil p ka kn kc key na nn nc now w h1 h3 h4 h5 h6) p0 (some ⟨w1.heap.size,0,none⟩) 1 1 [97] (some ⟨w1.heap.size+1,0,none⟩) 1 1 [120] _ T1.out trivial KA2.out (byte22 (by omega)) KB.out (by omega) (by omega) (by omega) (now22 (by omega) (by omega));have TA2:=TA.out;unfold pA22 at TA2;rw [TA2] at WC;refine WC.mono ?_;rintro en w2 ⟨⟨q1,rfl,ht2⟩,hg2⟩;have T2:=hZq ht2;have G2:=hZq (gZq GB.out hg2);clear ht2 hg2 WC TA2 TA T1 GB KA2 KB
 go_wp2_with (first | (go_at_call 22;refine (num22 _ _).mono ?_;rintro en wz ⟨rfl,hwz⟩;rw [hwz];clear hwz) | fail)
 have KA:=hZq (lit10 w2 5 (1,2) 98);have ga:=World.grownBy_alloc w2 (.cells #[.int .u8 98] 5 (1,2)) none;have gb:=World.grownBy_alloc (w2.alloc (.cells #[.int .u8 98] 5 (1,2))) (.cells #[.int .u8 121] 5 (1,2)) none;have KA2:=hZq (KA.out.keptN gb);have KB:=hZq (lit10 (w2.alloc (.cells #[.int .u8 98] 5 (1,2))) 5 (1,2) 121);have HSZ:Hid ((w2.alloc (.cells #[.int .u8 98] 5 (1,2))).heap.size=w2.heap.size+1):=by show _=_;simp
 rw [HSZ.out] at KB;have GB:=hZq (gZq G2.out (gZq ga gb));have T1:=hZq (T2.out.kept (FrT.of (gZq ga gb)));clear ga gb KA HSZ T2 G2;have WC:=with_any_of tA22 (fun p ka kn kc key na nn nc now w h1 _ h3 h4 h5 h6=>tchanged_L changedC0 p lA22 ka kn kc key na nn nc now w h1 tA_ok h3 h4 h5 h6) q1 (some ⟨w2.heap.size,0,none⟩) 1 1 [98] (some ⟨w2.heap.size+1,0,none⟩) 1 1 [121] _ T1.out tA_ok KA2.out (byte22 (by omega)) KB.out (by omega) (by omega) (by omega) (now22 (by omega) (by omega));have TB2:=TB.out;unfold pB22 at TB2;rw [TB2] at WC;refine WC.mono ?_;rintro en w3 ⟨⟨p,rfl,ht3⟩,hg3⟩;have HT:=hZq ht3;have G3:=hZq (gZq GB.out hg3);have OF:=hZq (fun (W:World) (h:w3.grownBy W none)=>of_any tB22 p W (ht3.kept (FrT.of h)) tB_trs);have LV:=hZq (fun (W:World) (h:w3.grownBy W none)=>levels_any tB22 p W (ht3.kept (FrT.of h)) tB_trs);have QU:=hZq (fun (W:World) (h:w3.grownBy W none)=>quantile_any tB22 p 4602678819172646912 W (ht3.kept (FrT.of h)) tB_trs half22);rw [tB_sum] at OF;rw [tB_high,tB_lvl] at LV;rw [tB_qt.1,tB_qt.2] at QU;clear ht3 hg3 WC TB2 TB T1 GB KA2 KB
 go_wp2_with (first | (go_at_call 22;refine (num22 _ _).mono ?_;rintro en wz ⟨rfl,hwz⟩;rw [hwz];clear hwz) | fail)
 refine (OF.out w3 (World.grownBy.refl _ _)).mono ?_;rintro en w4 ⟨rfl,hg4⟩;have G4:=hZq hg4;clear hg4 OF v1 v2;go_upto_region 8 with fail
 have ga:=World.grownBy_alloc w4 (.cells #[.int .i64 2,.int .i64 2,.int .i64 2,.int .i64 1,.int .i64 16,.float .f64 4571158024126730244] 28) none;have XS:=hZq (heap_at0 w4 #[.int .i64 2,.int .i64 2,.int .i64 2,.int .i64 1,.int .i64 16,.float .f64 4571158024126730244] 28);have G5:=hZq (gZq G4.out ga);clear ga G4;generalize w4.alloc (.cells #[.int .i64 2,.int .i64 2,.int .i64 2,.int .i64 1,.int .i64 16,.float .f64 4571158024126730244] 28)=w5 at *;generalize w4.heap.size=E at *
 go_wp2_with fail
 refine (LV.out w5 G5.out).mono ?_;rintro en w6 ⟨g,rfl,_,hfl,hg6⟩;have XS6:=hZq (heap_kept XS.out hg6);have HF6:=hZq hfl;have G6:=hZq (gZq G5.out hg6);clear hfl hg6 LV XS G5
 go_wp2_with fail
 refine (QU.out w6 G6.out).mono ?_;rintro en w7 ⟨rfl,hg7⟩;have HF7:=hZq (HF6.out.keptN hg7);have G7:=hZq (gZq G3.out (gZq G6.out hg7));have XS7:=heap_kept XS6.out hg7;have s0:=cell_heap (i:=0) XS7 rfl;have s1:=cell_heap (i:=1) XS7 rfl;have s2:=cell_heap (i:=2) XS7 rfl;have s3:=cell_heap (i:=3) XS7 rfl;have s4:=cell_heap (i:=4) XS7 rfl;have s5:=cell_heap (i:=5) XS7 rfl;have l5:=HF7.out.get (i:=0) (f:=5) rfl rfl;have l6:=HF7.out.get (i:=0) (f:=6) rfl rfl;rw [Nat.zero_mul,Nat.zero_add] at l5 l6;have o1:(FloatKind.f64.format.order 4571158024126730244 4571158024126730244==some .eq)=true:=by decide +kernel
 have o2:(FloatKind.f64.format.order 0 0==some .eq)=true:=by decide +kernel
 clear hg7 QU XS7 XS6 HF6 HF7 G6 HT G3
 go_wp2_with (first | (go_at_call 22;refine (num22 _ _).mono ?_;rintro en wz ⟨rfl,hwz⟩;rw [hwz];clear hwz) | fail)
 go_ret;exact ⟨rfl,G7.out⟩
end Go.Proofs.YteaahinjcfjngaaGreat
namespace Go.Proofs.YteaahinjcfjngaaGreat
open Go.RowKit
theorem order_self {a:Nat}(h:a<=infF):FloatKind.f64.format.order a a=some .eq:=by
 have h1:FloatKind.f64.format.order a a=some (compare a a):=order_rung h h;rw [h1];exact congrArg some (Nat.compare_eq_eq.2 rfl)
end Go.Proofs.YteaahinjcfjngaaGreat
