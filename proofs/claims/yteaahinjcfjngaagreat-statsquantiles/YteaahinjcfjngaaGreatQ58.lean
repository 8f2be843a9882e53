import Derived.Test.YteaahinjcfjngaaGreatQ51
import Derived.Deep.RegionHeld3
import Derived.Deep.DrawnRows
set_option maxRecDepth 100000
set_option maxHeartbeats 8000000
namespace Go.Proofs.YteaahinjcfjngaaGreat
open Go.RowKit
theorem btu_room {w:World}{a:Option Addr}{n c:Nat}{zs:List Int}(h:BtU w a n c zs):n=zs.length/\zs.length<=c/\c<=9223372036854775807:=by
 have:=h.b.len;have:=h.l1;have:=h.l2;omega
theorem RnU.nv {w:World}{a:Option Addr}{l:List RnT}{t:TrT}(h:RnU w a l)(hb:BlT l t):NvL w a (tellO (some t)):=fun i x hx=>by
 have hi:=(List.getElem?_eq_some_iff.1 hx).1;obtain ⟨n,hn⟩:∃ n,l[i]?=some n:=⟨_,List.getElem?_eq_getElem (by rw [hb.ln];exact hi)⟩;have he:=hb.eq i n x hn hx;obtain ⟨b,off,pa,pn,pc,ca,cn,cc,sa,sn,sc,ka,kn,kc,h1,h3⟩:=h.at' i n hn
 have hl:pn=x.ps.length:=by
  rw [<- he.ps];unfold zipR;rw [List.length_map,List.length_range];exact h3.ps.len.symm
 have hs:sn=x.ss.length:=by
  rw [<- he.ss];exact h3.ss.len.symm
 have k0:=h3.c0;have k1:=h3.c1;rw [he.no] at k0;rw [he.lv] at k1;subst hl hs;refine ⟨b,off,pa,pc,ca,cn,cc,sa,sc,ka,kn,kc,h1,⟨k0,k1,h3.c2,h3.c3,h3.c4,h3.c5,fun j p hp=>?_,⟨fun j hj=>?_⟩,h3.ss.cap.1,h3.ss.cap.2.1⟩⟩
 ·rw [<- he.ps] at hp
  unfold zipR at hp;rw [List.getElem?_map] at hp;obtain ⟨j',hj',rfl⟩:=Option.map_eq_some_iff.1 hp;have hjl:=(List.getElem?_eq_some_iff.1 hj').1;rw [List.length_range] at hjl;rw [List.getElem?_range hjl] at hj';obtain rfl:=Option.some.inj hj';obtain ⟨es,q1,q2⟩:=h3.ps.ex;obtain ⟨e,e1,ka',kn',kc',va',vn',vc',rfl,b1,b2⟩:=q2.get (List.getElem?_eq_getElem hjl);obtain ⟨g,off',e4,e5⟩:=q1.cell j _ e1;have r1:=btu_room b1;have r2:=btu_room b2;have x1:=e5 0 _ rfl;have x2:=e5 1 _ rfl;have y1:=b1.b;have y2:=b2.b;have z1:n.ps.getD j ([],[])=n.ps[j]:=by simp [List.getD,List.getElem?_eq_getElem hjl]
  rw [r1.1] at x1 y1;rw [r2.1] at x2 y2;simp only [z1];exact ⟨g,off',ka',kc',va',vc',e4,x1,x2,y1,y2,r1.2.1,r1.2.2,r2.2.1,r2.2.2⟩
 ·have hj2:j<n.ss.length:=by rw [he.ss];exact hj
  obtain ⟨g,off',ao,m,d,q1,q2,q3⟩:=h3.ss.str (List.getElem?_eq_getElem hj2);have r:=btu_room q3;have hgd:x.ss.getD j []=n.ss[j]:=by rw [<- he.ss];simp [List.getD,List.getElem?_eq_getElem hj2]
  rw [hgd];exact ⟨g,off',ao,m,d,q1,q2,q3.b,by omega,by omega⟩
def ikC (ka:Option Addr)(kc:Nat)(p:PrT):List Value:=[.slice ka p.key.length kc,.slice none 0 0,.int .i64 (p.val.length:Nat),.int .i64 0]
structure IkR (w:World)(es:List (List Value))(L:List PrT):Prop where
 len:es.length=L.length
 sz:∀ e∈es,e.length=4
 at':∀ (j:Nat) (p:PrT),L[j]?=some p->∃ ka kc,es[j]?=some (ikC ka kc p)/\Byt w ka p.key.length kc p.key/\p.key.length<=kc/\kc<=9223372036854775807
theorem IkR.nil (w:World):IkR w [] []:=⟨rfl,(fun e h=>by cases h),(fun j p h=>by simp at h)⟩
theorem IkR.kept {w w':World}{es:List (List Value)}{L:List PrT}(h:IkR w es L)(hg:w.grownBy w' none):IkR w' es L:=⟨h.len,h.sz,fun j p hp=>by
 obtain ⟨ka,kc,h1,h2,h3⟩:=h.at' j p hp;exact ⟨ka,kc,h1,h2.keptN hg,h3⟩⟩
theorem IkR.snoc {w:World}{es:List (List Value)}{L:List PrT}{p:PrT}{ka:Option Addr}{kc:Nat}(h:IkR w es L)(h2:Byt w ka p.key.length kc p.key)(h3:p.key.length<=kc)(h4:kc<=9223372036854775807):IkR w (es++[ikC ka kc p]) (L++[p]):=by
 have hl:=h.len;refine ⟨by rw [List.length_append,List.length_append,hl];rfl,fun e he=>?_,fun j q hq=>?_⟩
 ·rcases List.mem_append.1 he with h1 | h1
  ·exact h.sz e h1
  ·rw [List.mem_singleton.1 h1];rfl
 ·have hj:=(List.getElem?_eq_some_iff.1 hq).1
  rw [List.length_append,List.length_singleton] at hj
  by_cases hlt:j<L.length
  ·rw [List.getElem?_append_left hlt] at hq
   obtain ⟨ka',kc',k1,k2,k3⟩:=h.at' j q hq;exact ⟨ka',kc',by rw [List.getElem?_append_left (by omega)];exact k1,k2,k3⟩
  ·obtain rfl:j=L.length:=by omega
   rw [List.getElem?_append_right (Nat.le_refl _),Nat.sub_self] at hq;obtain rfl:=Option.some.inj hq;exact ⟨ka,kc,by rw [List.getElem?_append_right (by omega),hl,Nat.sub_self];rfl,h2,h3,h4⟩
theorem IkR.il {w:World}{es:List (List Value)}{L:List PrT}{base n c:Nat}{a:Option Addr}(h:IkR w es L)(ho:w.ownsRow base 122 4 (.slice a n c) n es.flatten)(hn:n=L.length):Il w a (its L):=by
 refine ⟨fun i hi=>?_⟩
 have hil:i<L.length:=by
  unfold its at hi;rw [List.length_map] at hi;exact hi
 have hx:L[i]?=some L[i]:=List.getElem?_eq_getElem hil;generalize L[i]=p at hx
 have hit:(its L).getD i it0=itm p:=by
  unfold its;simp [List.getD,List.getElem?_map,hx]
 obtain ⟨ka,kc,h1,h2,h3,h4⟩:=h.at' i p hx
 obtain ⟨g,rfl⟩:∃ g,a=some ⟨g,0,none⟩:=by
  rcases ho.2 with ⟨_,e0⟩ | ⟨g,cap,cur,e,_⟩
  ·omega
  ·injection e with e1
   exact ⟨g,e1⟩
 have cl:∀ f v,(ikC ka kc p)[f]?=some v->w.cell? ⟨g,0+i*4+f,none⟩=some v:=fun f v hf=>by
  have hf4:f<4:=(List.getElem?_eq_some_iff.1 hf).1;rw [Nat.zero_add,ho.cellAt (i*4+f) (by omega)];exact flat_at h.sz h1 hf
 rw [hit];exact ⟨g,0,ka,p.key.length,kc,none,0,0,rfl,cl 0 _ rfl,cl 1 _ rfl,cl 2 _ rfl,cl 3 _ rfl,h2,h3,h4,Byt.empty _,Nat.le_refl _,by omega⟩
theorem own_kept22 {w w':World}{base sz:Nat}{e:TypeId}{v:Value}{n:Nat}{xs:List Value}(h:w.ownsRow base e sz v n xs)(hg:w.grownBy w' none):w'.ownsRow base e sz v n xs :=
 h.kept hg (by cases v.ownBlock with | none=>exact .inl rfl | some g=>exact .inr (by simp))
theorem grown_app22 {w wr w':World}{o:Obj}{base n:Nat}{v:Value}{xs:List Value}{t:TypeId}{sz:Nat}(hg:w.grownBy wr none)(ho:wr.ownsRow base t sz v n xs)(hb:w.heap.size<=base)(h:(wr.alloc o).grownBy w' v.ownBlock):w.grownBy w' none:=by
 refine ⟨h.os.trans hg.os,h.tape.trans hg.tape,h.output.trans hg.output,?_,fun q hq _=>?_⟩
 ·have:=h.size;have:=hg.size;simp at *;omega
 ·have hq2:q<wr.heap.size:=Nat.lt_of_lt_of_le hq hg.size
  rw [h.block q (by simp;omega) (by intro e;have:=(ho.lt q e.symm).1;omega),Below.heap_alloc wr _ q hq2];exact hg.block q hq (by simp)
theorem itm_new (w:World)(vs:List Value)(t:TypeId):∀ j u,vs[j]?=some u->(w.alloc (.cells vs.toArray t)).cell? ((⟨w.heap.size,0,none⟩:Addr).add j)=some u:=by
 intro j u hu;rw [Addr.add_lit,Nat.zero_add,cell_of_row _ w.heap.size j _ _ (0,0) (heap_alloc_new w _)];simpa using hu
theorem refSize22 (x:NoT)(pa:Option Addr)(pc:Nat)(ca:Option Addr)(cn cc:Nat)(sa:Option Addr)(sc:Nat)(ka:Option Addr)(kn kc:Nat)(w:World)(hp:PxL w pa x.ps)(hs:Lz w sa x.ss)(hz:SzN x) :
  Calls Tryz.prog 38 #[.agg #[.int .i64 x.no,.int .i64 (x.lv:Int),.slice pa x.ps.length pc,.slice ca cn cc,.slice sa x.ss.length sc,.slice ka kn kc]] w fun en w'=>en=.returned (.int .i64 (nsz x:Nat))/\w.grownBy w' none:=by
 have HP:=hZq hp;have HS:=hZq hs;have HZ:=hZq hz;have ga:=World.grownBy_alloc w (.cells #[.int .i64 x.no,.int .i64 (x.lv:Int),.slice pa x.ps.length pc,.slice ca cn cc,.slice sa x.ss.length sc,.slice ka kn kc] 61) none;have X1:=hZq (heap_at0 w #[.int .i64 x.no,.int .i64 (x.lv:Int),.slice pa x.ps.length pc,.slice ca cn cc,.slice sa x.ss.length sc,.slice ka kn kc] 61);have GA:=hZq ga;clear ga hp hs hz;obtain ⟨lv,hlv⟩:∃ v,x.lv=v:=⟨_,rfl⟩;obtain ⟨pn,hpn⟩:∃ v,x.ps.length=v:=⟨_,rfl⟩;obtain ⟨sn,hsn⟩:∃ v,x.ss.length=v:=⟨_,rfl⟩;have HLV:=hZq hlv;have HPN:=hZq hpn;have HSN:=hZq hsn;rw [hlv,hpn,hsn] at X1 GA ⊢;obtain ⟨z,hzz⟩:∃ v,nsz x=v:=⟨_,rfl⟩;rw [hzz];have HNZ:=hZq hzz;clear hlv hpn hsn hzz;generalize x.no=no at *;go_enter Tryz.func38,Tryz.ntmps38;go_upto_region 1 with fail
 generalize w.alloc (.cells #[.int .i64 no,.int .i64 (lv:Int),.slice pa pn pc,.slice ca cn cc,.slice sa sn sc,.slice ka kn kc] 61)=w1 at *;generalize w.heap.size=D at *;have c1:=cell_heap (i:=1) X1.out rfl;have c2:=cell_heap (i:=2) X1.out rfl;have c4:=cell_heap (i:=4) X1.out rfl
 by_cases h0:0<lv
 ·have h0':(0:Int)<(lv:Int):=by omega
  have HV:Hid (bsize x.ss=z):=by show _=_;rw [<- HNZ.out];exact (if_neg (by rw [HLV.out];omega)).symm
  have RS:=hZq (refSize5_any sa sn sc x.ss w1 ⟨fun i hi=>by
   obtain ⟨b,off,ao,n,c,k1,k2,k3,k4⟩:=HS.out.row i hi;exact ⟨b,off,ao,n,c,k1,GA.out.cell k2 (by simp),k3.keptN GA.out,k4⟩⟩ HSN.out (by rw [<- HSN.out];exact Nat.le_trans HZ.out.sn (by decide)) (fun s hs=>Nat.le_trans (HZ.out.sv s hs) (by decide)))
  clear h0
  go_wp2_with fail
  refine RS.out.mono ?_;rintro en w2 ⟨rfl,hq⟩;have G2:=hZq (gZq GA.out (hq.grown none));clear hq RS;rw [HV.out];go_wp2;go_ret;exact ⟨rfl,G2.out⟩
 ·have h0':¬ (0:Int)<(lv:Int):=by omega
  have HV:Hid (size (its x.ps)=z):=by show _=_;rw [<- HNZ.out];exact (if_pos (by rw [HLV.out];omega)).symm
  obtain ⟨i0,hi,hz0,hz1,hz2⟩:=info_parts info_item10;have hpm:pn<=2046:=by rw [<- HPN.out];exact HZ.out.pn
  have HD:Hid (D<w1.heap.size):=(Array.getElem?_eq_some_iff.1 X1.out).1;clear h0
  go_wp2_with fail
  go_loopw [3,4] (fun s3 s4 wr=>∃ (k:Nat) (es:List (List Value)),k<=pn/\s4=.int .i64 (k:Nat)/\wr.ownsRow w1.heap.size 122 4 s3 k es.flatten/\IkR w1 es (x.ps.take k)/\w1.grownBy wr none) (fun _ s4 _=>pn - (intOf s4).toNat)
  case atStart=>exact ⟨0,[],Nat.zero_le _,rfl,⟨rfl,.inl ⟨rfl,rfl⟩⟩,IkR.nil _,World.grownBy.refl _ _⟩
  case round =>
   obtain ⟨k,es,hk,rfl,ho,hik,hg⟩:=hrel;have HO:=hZq ho;have HIK:=hZq hik;have HG:=hZq hg;have c2r:=hg.cell c2 (by simp);clear ho hik hg
   by_cases hlt:k<pn
   ·obtain ⟨q,hq⟩:∃ q,x.ps[k]?=some q:=⟨_,List.getElem?_eq_getElem (by have:=HPN.out;omega)⟩
    obtain ⟨pb,poff,ka',kc',va',vc',rfl,e0,e1,kb,vb,k1,k2,k3,k4⟩:=HP.out k q hq;have KB:=hZq kb;have HKR:Hid (q.key.length<=kc'/\kc'<=9223372036854775807):=⟨k1,k2⟩;have HT:Hid (x.ps.take (k+1)=x.ps.take k++[q]):=by show _=_;rw [List.take_add_one,hq];rfl
    have hqb:=HZ.out.pv q (List.mem_of_getElem? hq);have HQB:=hZq hqb;have KP:Hid (∀ W:World,w1.grownBy W none->W.cell? ⟨D,2,none⟩=some (.slice (some ⟨pb,poff,none⟩) pn pc)/\W.cell? ⟨pb,poff+k*2,none⟩=some (.slice ka' q.key.length kc')/\W.cell? ⟨pb,poff+k*2+1,none⟩=some (.slice va' q.val.length vc')):=fun W hW=>⟨hW.cell c2 (by simp),(gZq GA.out hW).cell e0 (by simp),(gZq GA.out hW).cell e1 (by simp)⟩
    have HGD:=hZq (gZq HG.out ((Qt.refl wr).drew.grown none));have HOD:=hZq (own_kept22 HO.out ((Qt.refl wr).drew.grown none));have TT:=hZq (KP.out _ HGD.out);have hwh:w1.heap.size<=wr.drew.heap.size:=HGD.out.size;clear kb vb k1 k2 k3 k4 e0 e1 hq hqb c2;have i0':(0:Int)<=(k:Int):=by omega
    have i1:(k:Int)<(pn:Int):=by omega
    obtain ⟨kl,hkl⟩:∃ v,q.key.length=v:=⟨_,rfl⟩;obtain ⟨vl',hvl⟩:∃ v,q.val.length=v:=⟨_,rfl⟩;rw [hkl,hvl] at KP TT;have hqv:vl'<=262144:=by rw [<- hvl];exact HQB.out.2.1
    have HKL:=hZq hkl;have HVL:=hZq hvl;clear hkl hvl;go_upto_region 7 with fail
    go_region_held3 (fun w'=>w'.cell? ⟨D,2,none⟩=some (.slice (some ⟨pb,poff,none⟩) pn pc)/\w'.cell? ⟨pb,poff+k*2,none⟩=some (.slice ka' kl kc')/\w'.cell? ⟨pb,poff+k*2+1,none⟩=some (.slice va' vl' vc')) (first | (with_reducible exact TT.out) | (with_reducible exact T4) | (exact KP.out _ (gZq HGD.out (World.grownBy_alloc _ _ none))) | go_keep)
     ((first
      | (refine step_append_own5 rfl (.tmp 18) (.tmp 33) 120 (by rfl) w1.heap.size 122 i0 (.agg #[.slice none 0 0,.slice none 0 0,.int .i64 0,.int .i64 0]) 4 64 Tryz.underlying120 hi hz0 hz1 hz2 rfl (by decide) u3 k es.flatten (by rfl) (by exact HOD.out.alloc _) ⟨wr.drew.heap.size,0,none⟩ 1 1 [.slice ka' kl kc',.slice none 0 0,.int .i64 vl',.int .i64 0] (by rfl) (by rfl) (by exact itm_new _ _ _) (by intro u hu;simp at hu;rcases hu with rfl | rfl | rfl | rfl <;> rfl) (by unfold maxLen;omega) (by omega) (by exact Nat.le_trans HGD.out.size (World.grownBy_alloc _ _ none).size) ?_;intro v4 w4 ho4 hg4;have hg04:=grown_app22 HGD.out HOD.out (Nat.le_refl _) hg4;have T4:=KP.out w4 hg04)))
    have HO4:=hZq ho4;have G4:=hZq hg04;clear ho4 hg4 hg04 T4 TT KP HO HOD
    go_wp2_with fail
    refine ⟨⟨k+1,es++[ikC ka' kc' q],by omega,by go_num,?_,?_,G4.out⟩,?_⟩
    ·have e:(es++[ikC ka' kc' q]).flatten=es.flatten++[.slice ka' kl kc',.slice none 0 0,.int .i64 vl',.int .i64 0]:=by
      rw [List.flatten_append,List.flatten_singleton];unfold ikC;rw [HKL.out,HVL.out]
     rw [e];exact HO4.out
    ·rw [HT.out]
     exact HIK.out.snoc (KB.out.keptN GA.out) HKR.out.1 HKR.out.2
    ·simp [intOf];omega
   ·obtain rfl:k=pn:=by omega
    have e:x.ps.take k=x.ps:=by rw [<- HPN.out,List.take_length]
    rw [e] at HIK;obtain ⟨a3,c3,rfl⟩:=own_shape10 HO.out
    have RS:=hZq (refSize_any a3 k c3 (its x.ps) wr ((HIK.out.kept HG.out).il HO.out HPN.out.symm) (by rw [its_len];exact HPN.out) (by omega) (fun y hy=>by
     unfold its at hy;obtain ⟨q,hq,rfl⟩:=List.mem_map.1 hy;exact Nat.le_trans (HZ.out.pv q hq).1 (by decide)))
    have G5:=hZq (gZq GA.out HG.out);clear HO HIK HG e
    go_wp2_with fail
    refine RS.out.mono ?_;rintro en w2 ⟨rfl,hq⟩;have G2:=hZq (gZq G5.out (hq.qt.grown none));clear hq RS;rw [HV.out];go_wp2;go_ret;exact ⟨rfl,G2.out⟩
def lzN (ns:List NoT)(lv:Nat):List Int:=(atL ns lv).map fun x=>((nsz x:Nat):Int)
theorem lzN_snoc (ns:List NoT)(lv:Nat)(x:NoT):lzN (ns++[x]) lv=if x.lv=lv then lzN ns lv++[((nsz x:Nat):Int)] else lzN ns lv:=by
 unfold lzN atL;rw [List.filter_append]
 by_cases h:x.lv=lv
 ·rw [if_pos h,List.filter_cons_of_pos (by simpa using h),List.map_append]
  rfl
 ·rw [if_neg h,List.filter_cons_of_neg (by simpa using h),List.filter_nil,List.append_nil]
theorem lzN_len (ns:List NoT)(lv k:Nat):(lzN (ns.take k) lv).length<=k:=by
 unfold lzN;rw [List.length_map];exact Nat.le_trans (atL_len _ _) (by rw [List.length_take];exact Nat.min_le_left _ _)
theorem refSizes22 (a:Option Addr)(n c:Nat)(ns:List NoT)(lv:Nat)(w:World)(h:NvL w a ns)(hn:ns.length=n)(hz:∀ x∈ns,SzN x)(hb:n<=100000) :
  Calls Tryz.prog 18 #[.slice a n c,.int .i64 (lv:Nat)] w fun en w'=>∃ v,en=.returned v/\w'.ownsRow w.heap.size 3 1 v (lzN ns lv).length ((lzN ns lv).map (Value.int .i64))/\w.grownBy w' none:=by
 obtain ⟨i0,hi,hz0,hz1,hz2⟩:=info_parts info_i10;have HV:=hZq h;have HN:=hZq hn;have HZ:=hZq hz;clear h hn hz;go_enter Tryz.func18,Tryz.ntmps18
 go_wp2_with fail
 go_loopw [5,6] (fun s5 s6 wr=>∃ k:Nat,k<=n/\s6=.int .i64 (k:Nat)/\wr.ownsRow w.heap.size 3 1 s5 (lzN (ns.take k) lv).length ((lzN (ns.take k) lv).map (Value.int .i64))/\w.grownBy wr none) (fun _ s6 _=>n - (intOf s6).toNat)
 case atStart=>exact ⟨0,Nat.zero_le _,rfl,⟨rfl,.inl ⟨rfl,rfl⟩⟩,World.grownBy.refl _ _⟩
 case round =>
  obtain ⟨k,hk,rfl,ho,hg⟩:=hrel;have HO:=hZq ho;have HG:=hZq hg;clear ho hg
  by_cases hlt:k<n
  ·obtain ⟨x,hx⟩:∃ x,ns[k]?=some x:=⟨_,List.getElem?_eq_getElem (by have:=HN.out;omega)⟩
   have SZ:=hZq (HZ.out x (List.mem_of_getElem? hx));have HT:Hid (ns.take (k+1)=ns.take k++[x]):=by show _=_;rw [List.take_add_one,hx];rfl
   have HSN:=hZq (lzN_snoc (ns.take k) lv x);rw [<- HT.out] at HSN;have HLE:=hZq (lzN_len ns lv k);obtain ⟨b,off,pa,pc,ca,cn,cc,sa,sc,ka,kn,kc,rfl,hv⟩:=(HV.out.cef (CeF.of HG.out)) k x hx;have RS:=hZq (refSize22 x pa pc ca cn cc sa sc ka kn kc wr hv.p hv.s SZ.out);have c0:=hv.c0;have c1:=hv.c1;have c2:=hv.c2;have c3:=hv.c3;have c4:=hv.c4;have c5:=hv.c5;clear hv hx;have i0':(0:Int)<=(k:Int):=by omega
   have i1:(k:Int)<(n:Int):=by omega
   have hxl:=SZ.out.lv
   by_cases hl:x.lv=lv
   ·rw [if_pos hl] at HSN
    have hl':((x.lv:Int)==(lv:Int))=true:=by rw [hl];simp
    rw [hl] at c1 hl' RS;clear hl hxl;obtain ⟨zs,hzs⟩:∃ v,lzN (ns.take k) lv=v:=⟨_,rfl⟩;rw [hzs] at HO HSN HLE;clear hzs;have hle:=HLE.out
    go_wp2_with fail
    refine RS.out.mono ?_;rintro en w2 ⟨rfl,hg2⟩;have HO2:=hZq (own_kept22 HO.out hg2);have G2:=hZq (gZq HG.out hg2);clear hg2 RS HO c0 c1 c2 c3 c4 c5
    go_wp2_with (at_builtin;refine wpList_append_own _ rfl _ _ 30 rfl w.heap.size 3 i0 (.int .i64 0) 1 8 Tryz.underlying30 hi hz0 hz1 hz2 rfl (by decide) _ zs.length (zs.map (Value.int .i64)) rfl (HO2.out.alloc _) ⟨w2.heap.size,0,none⟩ 1 1 [.int .i64 (nsz x:Nat)] rfl rfl (cell_one_new _ _ _) (by intro u hu;simp at hu;subst hu;rfl) (by unfold maxLen;omega) (by omega) (by exact Nat.le_trans G2.out.size (World.grownBy_alloc _ _ none).size) ?_)
    intro v4 w4 ho4 hg4 _;have G4:=hZq (grown_app22 G2.out HO2.out (Nat.le_refl _) hg4);have HO4:=hZq ho4;clear ho4 hg4 HO2
    go_wp2_with fail
    refine ⟨⟨k+1,by omega,by go_num,?_,G4.out⟩,?_⟩
    ·rw [HSN.out,List.map_append,List.length_append]
     exact HO4.out
    ·simp [intOf];omega
   ·rw [if_neg hl] at HSN
    have hl':((x.lv:Int)==(lv:Int))=false:=by rw [beq_eq_false_iff_ne];omega
    rw [<- HSN.out] at HO;clear hl
    go_wp2_with fail
    refine ⟨⟨k+1,by omega,by go_num,HO.out,HG.out⟩,?_⟩;simp [intOf];omega
  ·obtain rfl:k=n:=by omega
   have e:ns.take k=ns:=by rw [<- HN.out,List.take_length]
   rw [e] at HO;go_wp2;go_ret;exact ⟨_,rfl,HO.out,HG.out⟩
theorem refParts_bad22 (v:Value)(z:Int)(w:World)(hz:z<1∨1000<z)(hv:∃ a n c,v=.slice a n c) :
  Calls Tryz.prog 20 #[v,.int .i64 z] w fun en w'=>en=.returned (.tuple #[.slice none 0 0,.int .i64 220])/\w.grownBy w' none:=by
 obtain ⟨a,n,c,rfl⟩:=hv
 by_cases h1:z<1
 ·clear hz
  go_enter Tryz.func20,Tryz.ntmps20;go_wp2
  go_ret2
  exact ⟨rfl,World.grownBy.refl _ _⟩
 ·have h2:1000<z:=by omega
  clear hz;go_enter Tryz.func20,Tryz.ntmps20;go_wp2
  go_ret2
  exact ⟨rfl,World.grownBy.refl _ _⟩
theorem refParts22 (L:List Nat)(n base:Nat)(v:Value)(w:World) (ho:w.ownsRow base 3 1 v L.length ((L.map fun s=>((s:Nat):Int)).map (Value.int .i64))) (hb:∀ s∈L,s<=4092) (hl:L.length<=100000) (hn:1<=n) (hn2:n<=1000) :
  Calls Tryz.prog 20 #[v,.int .i64 (n:Nat)] w fun en w'=>∃ g,en=.returned (.tuple #[.slice (some ⟨g,0,none⟩) n n,.int .i64 0])/\w.heap.size<=g/\w'.ownsRow g 3 1 (.slice (some ⟨g,0,none⟩) n n) n ((ptL n L).map (Value.int .i64))/\w.grownBy w' none:=by
 obtain ⟨i0,hi,hz0,hz1,hz2⟩:=info_parts info_i10;obtain ⟨la,lc,rfl⟩:=own_shape10 ho;have HSB:=hZq hb
 have HLC:Hid (∀ (k s:Nat),L[k]?=some s->∃ lb,la=some ⟨lb,0,none⟩/\lb<w.heap.size/\w.cell? ⟨lb,k,none⟩=some (.int .i64 (s:Nat))):=fun k s hs=>by
  have hk:=(List.getElem?_eq_some_iff.1 hs).1
  obtain ⟨lb,hlb⟩:∃ lb,la=some ⟨lb,0,none⟩:=by
   rcases ho.2 with ⟨_,e0⟩ | ⟨g',cap,cur,e,_⟩
   ·omega
   ·injection e with e1
    exact ⟨g',e1⟩
  subst hlb;have h2:lb<w.heap.size:=(own_lt10 ho rfl).2.1;refine ⟨lb,rfl,h2,?_⟩;rw [ho.cellAt k (by omega),List.getElem?_map,List.getElem?_map,hs]
  rfl
 clear ho hb;obtain ⟨m,hm⟩:∃ m,L.length=m:=⟨_,rfl⟩;rw [hm] at hl ⊢;have HM:=hZq hm;clear hm;have h1:¬ (n:Int)<1:=by omega
 have h2:¬ (1000:Int)<(n:Int):=by omega
 go_enter Tryz.func20,Tryz.ntmps20
 go_wp2_with (at_make;refine wpList_make_full _ rfl _ _ 30 rfl w.heap.size 3 i0 (.int .i64 0) 1 Tryz.underlying30 hi hz0 hz1 _ _ _ _ n rfl rfl rfl rfl ?b2 ?b3 (Nat.le_refl _) ?_)
 case b2=>first | omega | (rw [hz2];omega)
 case b3=>unfold maxLen;omega
 intro w4 ho3 hg3;obtain ⟨g,hg⟩:∃ g,w.heap.size=g:=⟨_,rfl⟩
 have O4:Hid (w4.ownsRow g 3 1 (.slice (some ⟨g,0,none⟩) n n) n ((ptL n []).map (Value.int .i64))):=by
  have ho4:=ho3
  (try rw [Nat.mul_one] at ho4)
  (try rw [show (Value.int IntKind.i64 0).cells=#[Value.int IntKind.i64 0] from rfl] at ho4)
  rw [toList_madeCells_one,hg] at ho4
  show w4.ownsRow _ _ _ _ _ _
  rw [ptL_nil];simpa using ho4
 rw [hg] at HLC ⊢;have G4:=hZq hg3;have HG:=hZq hg;clear ho3 hg3 hg h1 h2
 go_wp2_with fail
 go_loopw [7] (fun si wr=>∃ k:Nat,k<=m/\si=.int .i64 (k:Nat)/\wr.ownsRow g 3 1 (.slice (some ⟨g,0,none⟩) n n) n ((ptL n (L.take k)).map (Value.int .i64))/\w4.grownBy wr (some g)) (fun si _=>m - (intOf si).toNat)
 case atStart=>exact ⟨0,Nat.zero_le _,rfl,O4.out,World.grownBy.refl _ _⟩
 case round =>
  obtain ⟨k,hk,rfl,ho,hgr⟩:=hrel;have HO:=hZq ho;have GR:=hZq hgr;clear ho hgr
  by_cases hlt:k<m
  ·obtain ⟨s,hx⟩:∃ s,L[k]?=some s:=⟨_,List.getElem?_eq_getElem (by have:=HM.out;omega)⟩
   obtain ⟨lb,rfl,hne,hc⟩:=HLC.out k s hx;have c1:=GR.out.cell (G4.out.cell hc (by simp)) (by intro e;have h3:lb=g:=Option.some.inj e;omega);have hs:=HSB.out s (List.mem_of_getElem? hx);have HT2:Hid (L.take (k+1)=L.take k++[s]):=by show _=_;rw [List.take_add_one,hx];rfl
   have hj:=ptI_lt (n:=n) (by omega) s
   have hcnt:ptC n (L.take k) (ptI n s)<=100000:=by
    have h1:=ptC_le n (L.take k) (ptI n s);rw [List.length_take] at h1;omega
   have HSN:=hZq (ptL_snoc (n:=n) (by omega) (L.take k) s);rw [<- HT2.out] at HSN;obtain ⟨pr,hpr⟩:∃ pr,s*n=pr:=⟨_,rfl⟩;have hprb:pr<=4092000:=by rw [<- hpr];exact Nat.mul_le_mul hs hn2
   have e1:(s:Int)*(n:Int)=(pr:Int):=by rw [<- hpr];omega
   have hjd:ptI n s=min (pr / 4092) (n - 1):=by unfold ptI;rw [hpr]
   obtain ⟨j,hjj⟩:∃ j,ptI n s=j:=⟨_,rfl⟩;rw [hjj] at hj hcnt HSN hjd;obtain ⟨cn,hcn⟩:∃ c,ptC n (L.take k) j=c:=⟨_,rfl⟩
   have c2:wr.cell? ⟨g,j,none⟩=some (.int .i64 (cn:Nat)):=by
    rw [HO.out.cellAt j (by omega),List.getElem?_map,ptL_at _ hj,hcn]
    rfl
   rw [hcn] at hcnt HSN;have f2:=HO.out.frozenAt j;have ST:=hZq (HO.out.stored j (.int .i64 ((cn:Int)+1)));rw [<- List.map_set,<- HSN.out] at ST;clear hx hc hpr hcn hjj HT2 hs HSN hne;have i0':(0:Int)<=(k:Int):=by omega
   have i1:(k:Int)<(m:Int):=by omega
   by_cases hle:pr / 4092<=n - 1
   ·obtain rfl:j=pr / 4092:=by omega
    have m1:¬ (n:Int)<=(pr:Int) / 4092:=by omega
    have HLE:=hZq hle;clear hjd
    go_wp2_with fail
    refine ⟨⟨k+1,by omega,by go_num,ST.out.1,gZq GR.out ST.out.2⟩,?_⟩;simp [intOf];omega
   ·obtain rfl:j=n - 1:=by omega
    have m1:(n:Int)<=(pr:Int) / 4092:=by omega
    have m2:(n:Int) - 1=((n - 1:Nat):Int):=by omega
    have HLE:=hZq hle;clear hjd hle
    go_wp2_with fail
    refine ⟨⟨k+1,by omega,by go_num,ST.out.1,gZq GR.out ST.out.2⟩,?_⟩;simp [intOf];omega
  ·obtain rfl:k=m:=by omega
   have e:L.take k=L:=by rw [<- HM.out,List.take_length]
   rw [e] at HO;go_wp2
   go_ret2
   exact ⟨g,rfl,Nat.le_of_eq HG.out,HO.out,grown_new G4.out GR.out (Nat.le_of_eq HG.out)⟩
theorem srt22_eq {us L:List Int}(hp:us.Perm L)(hs:us.Pairwise fun x y=>x<=y):us=srt22 L:=by
 refine List.Perm.eq_of_pairwise (le:=fun x y:Int=>x<=y) (fun a b _ _ h1 h2=>Int.le_antisymm h1 h2) hs (srt22_rise L) (hp.trans ?_);exact (List.mergeSort_perm L _).symm
theorem srt22_perm (L:List Int):(srt22 L).Perm L:=List.mergeSort_perm L _
theorem srt22_lay {L A B:List Int}{x:Int}(h:A++B=srt22 L)(ha:∀ y,A.getLast?=some y->y<=x)(hb:∀ b∈B,x<b):A++x::B=srt22 (L++[x]):=by
 have hs:=srt22_rise L;rw [<- h] at hs;obtain ⟨h1,h2,h3⟩:=List.pairwise_append.1 hs
 have hal:∀ a∈A,a<=x:=fun a hm=>by
  obtain ⟨A',y,rfl⟩:∃ A' y,A=A'++[y]:=by
   rcases List.eq_nil_or_concat A with rfl | ⟨A',y,e⟩
   ·cases hm
   ·exact ⟨A',y,by rw [e,List.concat_eq_append]⟩
  have hy:=ha y (by simp);rcases List.mem_append.1 hm with h4 | h4
  ·exact Int.le_trans ((List.pairwise_append.1 h1).2.2 a h4 y (List.mem_singleton.2 rfl)) hy
  ·rw [List.mem_singleton.1 h4];exact hy
 refine srt22_eq ?_ ?_
 ·have hp:(A++x::B).Perm (x::(A++B)):=List.perm_middle
  refine hp.trans ?_;rw [h];refine (List.Perm.cons x (srt22_perm L)).trans ?_;exact (List.perm_append_singleton x L).symm
 ·refine List.pairwise_append.2 ⟨h1,List.pairwise_cons.2 ⟨fun b hm=>Int.le_of_lt (hb b hm),h2⟩,fun a hma b hmb=>?_⟩
  rcases List.mem_cons.1 hmb with rfl | h4
  ·exact hal a hma
  ·exact h3 a hma b h4
theorem swap22 (A B:List Int)(y x:Int):((A++y::x::B).set (A.length+1) y).set A.length x=A++x::y::B:=by
 rw [List.set_append_right _ _ (by omega),show A.length+1 - A.length=1 by omega,List.set_append_right _ _ (Nat.le_refl _),Nat.sub_self]
 rfl
theorem refRising22 (us:List Int)(base:Nat)(v:Value)(w:World)(ho:w.ownsRow base 3 1 v us.length (us.map (Value.int .i64)))(hl:us.length<=100000) :
  Calls Tryz.prog 50 #[v] w fun en w'=>∃ v',en=.returned v'/\w'.ownsRow w.heap.size 3 1 v' us.length ((srt22 us).map (Value.int .i64))/\w.grownBy w' none:=by
 obtain ⟨i0,hi,hz0,hz1,hz2⟩:=info_parts info_i10;obtain ⟨la,lc,rfl⟩:=own_shape10 ho
 have HLC:Hid (∀ (k:Nat) (s:Int),us[k]?=some s->∃ lb,la=some ⟨lb,0,none⟩/\w.cell? ⟨lb,k,none⟩=some (.int .i64 s)):=fun k s hs=>by
  have hk:=(List.getElem?_eq_some_iff.1 hs).1
  obtain ⟨lb,hlb⟩:∃ lb,la=some ⟨lb,0,none⟩:=by
   rcases ho.2 with ⟨_,e0⟩ | ⟨g',cap,cur,e,_⟩
   ·omega
   ·injection e with e1
    exact ⟨g',e1⟩
  subst hlb;refine ⟨lb,rfl,?_⟩;rw [ho.cellAt k (by omega),List.getElem?_map,hs]
  rfl
 clear ho;obtain ⟨n,hn⟩:∃ n,us.length=n:=⟨_,rfl⟩;rw [hn] at hl ⊢;have HN:=hZq hn;clear hn;go_enter Tryz.func50,Tryz.ntmps50
 go_wp2_with fail
 go_loopw [3,4] (fun s3 s4 wr=>∃ k:Nat,k<=n/\s4=.int .i64 (k:Nat)/\wr.ownsRow w.heap.size 3 1 s3 k ((srt22 (us.take k)).map (Value.int .i64))/\w.grownBy wr none) (fun _ s4 _=>n - (intOf s4).toNat)
 case atStart=>exact ⟨0,Nat.zero_le _,rfl,⟨by rw [List.take_zero,List.length_map,srt22_len];rfl,.inl ⟨rfl,rfl⟩⟩,World.grownBy.refl _ _⟩
 case round =>
  obtain ⟨k,hk,rfl,ho,hg⟩:=hrel;have HO:=hZq ho;have HG:=hZq hg;clear ho hg
  by_cases hlt:k<n
  ·obtain ⟨x,hx⟩:∃ x,us[k]?=some x:=⟨_,List.getElem?_eq_getElem (by have:=HN.out;omega)⟩
   have HT:Hid (us.take (k+1)=us.take k++[x]):=by show _=_;rw [List.take_add_one,hx];rfl
   have HOL:Hid ((srt22 (us.take k)).length=k):=by show _=_;rw [srt22_len,List.length_take];have:=HN.out;omega
   obtain ⟨lb,rfl,hc⟩:=HLC.out k x hx;have c1:=HG.out.cell hc (by simp);clear hc hx;have i0':(0:Int)<=(k:Int):=by omega
   have i1:(k:Int)<(n:Int):=by omega
   go_wp2_with (at_builtin;refine wpList_append_own _ rfl _ _ 30 rfl w.heap.size 3 i0 (.int .i64 0) 1 8 Tryz.underlying30 hi hz0 hz1 hz2 rfl (by decide) _ k ((srt22 (us.take k)).map (Value.int .i64)) rfl (HO.out.alloc _) ⟨wr.heap.size,0,none⟩ 1 1 [.int .i64 x] rfl rfl (cell_one_new _ _ _) (by intro u hu;simp at hu;subst hu;rfl) (by unfold maxLen;omega) (by omega) (by exact Nat.le_trans HG.out.size (World.grownBy_alloc _ _ none).size) ?_)
   intro v4 w4 ho4 hg4 _;have G4:=hZq (grown_app22 HG.out HO.out (Nat.le_refl _) hg4);obtain ⟨a4,c4,rfl⟩:=own_shape10 ho4
   obtain ⟨g,rfl⟩:∃ g,a4=some ⟨g,0,none⟩:=by
    rcases ho4.2 with ⟨_,e0⟩ | ⟨g,cap,cur,e,_⟩
    ·omega
    ·injection e with e1
     exact ⟨g,e1⟩
   have HGL:Hid (w.heap.size<=g):=(own_lt10 ho4 rfl).1;obtain ⟨K,hK⟩:∃ K,k+1=K:=⟨_,rfl⟩;rw [hK] at ho4 ⊢
   have HO4:Hid (w4.ownsRow w.heap.size 3 1 (.slice (some ⟨g,0,none⟩) K c4) K ((srt22 (us.take k)++x::[]).map (Value.int .i64))):=by
    show w4.ownsRow _ _ _ _ _ _
    rw [List.map_append];exact ho4
   obtain ⟨old,hold⟩:∃ o,srt22 (us.take k)=o:=⟨_,rfl⟩;rw [hold] at HO4 HOL;have HOD:=hZq hold;clear ho4 hg4 HO HG hold
   go_wp2_with fail
   go_loopw [5] (fun s5 wz=>∃ (A B:List Int),s5=.int .i64 (A.length:Nat)/\A++B=old/\(∀ b∈B,x<b)/\wz.ownsRow w.heap.size 3 1 (.slice (some ⟨g,0,none⟩) K c4) K ((A++x::B).map (Value.int .i64))/\w4.grownBy wz (some g)) (fun s5 _=>(intOf s5).toNat)
   case atStart=>exact ⟨old,[],by rw [HOL.out];go_num,List.append_nil _,(fun b hb=>by cases hb),HO4.out,World.grownBy.refl _ _⟩
   case round =>
    obtain ⟨A,B,rfl,hab,hb,ho,hg⟩:=hrel;have HAB:=hZq hab;have HBX:=hZq hb;have HOZ:=hZq ho;have HGZ:=hZq hg
    have HNX:Hid ((∀ y,A.getLast?=some y->y<=x)->∀ W:World,wr.grownBy W none->(W.ownsRow w.heap.size 3 1 (.slice (some ⟨g,0,none⟩) K c4) (k+1) ((srt22 (us.take (k+1))).map (Value.int .i64))/\w.grownBy W none)):=fun ha W hW=>by
     have h1:=srt22_lay (hab.trans HOD.out.symm) ha hb;rw [<- HT.out] at h1;refine ⟨?_,gZq (grown_new G4.out hg HGL.out) hW⟩;rw [<- h1,hK];exact own_kept22 ho hW
    clear hab hb ho hg;obtain ⟨j,hj⟩:∃ j,A.length=j:=⟨_,rfl⟩;rw [hj]
    by_cases hA:j=0
    ·obtain rfl:A=[]:=List.length_eq_zero_iff.1 (by omega)
     have b0:¬ (0:Int)<(j:Int):=by omega
     have b9:¬ 0<j:=by omega
     have FN:=hZq (HNX.out (fun y hy=>by simp at hy) wr.drew ((Qt.refl wr).drew.grown none));clear hA HNX HAB HBX HOZ HGZ;clear hj;go_upto_region 7 with fail
     go_region
     go_wp2_with fail
     refine ⟨⟨k+1,by omega,by go_num,FN.out.1,FN.out.2⟩,?_⟩;simp [intOf];omega
    ·obtain ⟨A',y,rfl⟩:∃ A' y,A=A'++[y]:=by
      rcases List.eq_nil_or_concat A with rfl | ⟨A',y,e⟩
      ·exact absurd hj.symm hA
      ·exact ⟨A',y,by rw [e,List.concat_eq_append]⟩
     obtain ⟨i,hi2⟩:∃ i,A'.length=i:=⟨_,rfl⟩;have hij:j=i+1:=by rw [<- hj,<- hi2,List.length_append];rfl
     have hjk:j<=k:=by
      have h1:=congrArg List.length HAB.out;rw [List.length_append,HOL.out,hj] at h1;omega
     have k1:wr.cell? ⟨g,i,none⟩=some (.int .i64 y):=by
      rw [HOZ.out.cellAt i (by omega),List.getElem?_map,List.append_assoc,List.getElem?_append_right (by omega),hi2,Nat.sub_self]
      rfl
     have k2:wr.cell? ⟨g,j,none⟩=some (.int .i64 x):=by
      rw [HOZ.out.cellAt j (by omega),List.getElem?_map,List.getElem?_append_right (by omega),hj,Nat.sub_self]
      rfl
     have f1:=HOZ.out.frozenAt i;have f2:=HOZ.out.frozenAt j;have hw1:IntKind.i64.wrap ((j:Int) - 1)=(i:Int):=by rw [hij];exact (wrap_id10 (by omega) (by omega)).trans (by omega)
     have b0:(0:Int)<(j:Int):=by omega
     have b9:0<j:=by omega
     have b1:(0:Int)<=(j:Int):=by omega
     have b2:(j:Int)<(K:Int):=by omega
     have b3:(0:Int)<=(i:Int):=by omega
     have b4:(i:Int)<(K:Int):=by omega
     have TT:Hid (wr.drew.cell? ⟨g,i,none⟩=some (.int .i64 y)/\wr.drew.cell? ⟨g,j,none⟩=some (.int .i64 x)):=⟨k1,k2⟩;have HIJ:=hZq hij;have HJJ:=hZq hj;have HII:=hZq hi2;have HJK:=hZq hjk;clear hij hj hi2 hjk hA
     by_cases hyx:x<y
     ·clear HNX
      go_upto_region 7 with fail
      go_region_held3 (fun w'=>w'.cell? ⟨g,i,none⟩=some (.int .i64 y)/\w'.cell? ⟨g,j,none⟩=some (.int .i64 x)) (first | (with_reducible exact TT.out) | go_keep) (fail)
      have HODD:=hZq (own_kept22 HOZ.out ((Qt.refl wr).drew.grown none));have ST1:=hZq (HODD.out.stored j (.int .i64 y));have ST2:=hZq (ST1.out.1.stored i (.int .i64 x));rw [<- List.map_set,<- List.map_set] at ST2
      have HSW:Hid (((A'++[y]++x::B).set j y).set i x=A'++x::y::B):=by
       have h1:=swap22 A' B y x;rw [HII.out,<- HIJ.out] at h1
       show _=_
       rw [List.append_assoc];exact h1
      rw [HSW.out] at ST2;have GS:=hZq (gZq HGZ.out (gZq ((Qt.refl wr).drew.grown (some g)) (gZq ST1.out.2 ST2.out.2)));have hne:i≠j:=by have:=HIJ.out;omega
      have hne2:j≠i:=by have:=HIJ.out;omega
      go_wp2_with fail
      refine ⟨⟨A',y::B,by rw [HII.out],?_,?_,ST2.out.1,GS.out⟩,?_⟩
      ·have h1:=HAB.out
       rw [List.append_assoc] at h1;exact h1
      ·intro b hb
       rcases List.mem_cons.1 hb with rfl | h4
       ·exact hyx
       ·exact HBX.out b h4
      ·have:=HIJ.out
       simp [intOf];omega
     ·have FN:=hZq (HNX.out (fun z hz=>by
       rw [List.getLast?_append] at hz;simp at hz;omega) wr.drew ((Qt.refl wr).drew.grown none))
      clear HNX;go_upto_region 7 with fail
      go_region_held3 (fun w'=>w'.cell? ⟨g,i,none⟩=some (.int .i64 y)/\w'.cell? ⟨g,j,none⟩=some (.int .i64 x)) (first | (with_reducible exact TT.out) | go_keep) (fail)
      clear k1 k2 f1 f2 b0 b9 b1 b2 b3 b4
      go_wp2_with fail
      refine ⟨⟨k+1,by omega,by go_num,FN.out.1,FN.out.2⟩,?_⟩;simp [intOf];omega
  ·obtain rfl:k=n:=by omega
   have e:us.take k=us:=by rw [<- HN.out,List.take_length]
   rw [e] at HO;go_wp2;go_ret;exact ⟨_,rfl,HO.out,HG.out⟩
theorem sh_in22 {q:Nat}(hq:ShF q):(FloatKind.f64.format.order q 0==some Ordering.gt || FloatKind.f64.format.order q 0==some Ordering.eq)=true/\(FloatKind.f64.format.order q 4607182418800017408==some Ordering.lt || FloatKind.f64.format.order q 4607182418800017408==some Ordering.eq)=true:=by
 rcases hq with hq | rfl
 ·have h1:q<=infF:=Nat.le_trans hq (Nat.le_of_lt one_lt)
  have a2:FloatKind.f64.format.order q 0=some (compare q 0):=order_rung h1 (Nat.zero_le _);have a3:FloatKind.f64.format.order q oneF=some (compare q oneF):=order_rung h1 (Nat.le_of_lt one_lt);rw [one22,a2,a3];refine ⟨?_,?_⟩
  ·rcases Nat.lt_or_eq_of_le (Nat.zero_le q) with h | h
   ·rw [Nat.compare_eq_gt.2 h];rfl
   ·rw [Nat.compare_eq_eq.2 h.symm];rfl
  ·rcases Nat.lt_or_eq_of_le hq with h | h
   ·rw [Nat.compare_eq_lt.2 h];rfl
   ·rw [Nat.compare_eq_eq.2 h];rfl
 ·exact ⟨by decide +kernel,by decide +kernel⟩
theorem sh_or {q:Nat}(hq:q<2 ^ 64):ShF q∨(FloatKind.f64.format.order q q=none/\FloatKind.f64.format.order q 0=none)∨(FloatKind.f64.format.order q q=some .eq/\FloatKind.f64.format.order q 0=some .lt)∨(FloatKind.f64.format.order q q=some .eq/\FloatKind.f64.format.order q 0=some .gt/\FloatKind.f64.format.order q 4607182418800017408=some .gt):=by
 rw [one22];rcases wd_or hq with ⟨s,a,ha,rfl⟩ | hn
 ·have o1:FloatKind.f64.format.order (wdS s a) (wdS s a)=some (compare (sgS s a) (sgS s a)):=order_wd s s ha ha
  have o2:FloatKind.f64.format.order (wdS s a) 0=some (compare (sgS s a) (sgS false 0)):=order_wd s false ha (Nat.zero_le _);have o3:FloatKind.f64.format.order (wdS s a) oneF=some (compare (sgS s a) (sgS false oneF)):=order_wd s false ha (Nat.le_of_lt one_lt);rw [o1,o2,o3,cmpI_eq];rcases Int.lt_or_le (sgS s a) (sgS false 0) with h | h
  ·exact .inr (.inr (.inl ⟨rfl,by rw [cmpI_lt h]⟩))
  ·rcases Int.lt_or_le (sgS false oneF) (sgS s a) with h2 | h2
   ·have h3:sgS false 0<sgS s a:=Int.lt_of_le_of_lt (by show ((0:Nat):Int)<=((oneF:Nat):Int);omega) h2
    exact .inr (.inr (.inr ⟨rfl,by rw [cmpI_gt h3],by rw [cmpI_gt h2]⟩))
   ·refine .inl ?_
    unfold sgS at h h2;unfold ShF wdS;generalize oneF=O at *;generalize negF=G at *;cases s <;> simp only [if_true,Bool.false_eq_true,if_false] at*<;> omega
 ·exact .inr (.inl ⟨nan_left hn q,nan_left hn 0⟩)
theorem quantile_bad (p q:Nat)(w:World)(hq:(FloatKind.f64.format.order q q=none/\FloatKind.f64.format.order q 0=none)∨(FloatKind.f64.format.order q q=some .eq/\FloatKind.f64.format.order q 0=some .lt)∨(FloatKind.f64.format.order q q=some .eq/\FloatKind.f64.format.order q 0=some .gt/\FloatKind.f64.format.order q 4607182418800017408=some .gt)) :
  Calls Tryz.prog 23 #[.pointer (some ⟨p,0,none⟩),.float .f64 q] w fun en w'=>en=.returned (.tuple #[.float .f64 0,.int .i64 221])/\w.grownBy w' none:=by
 rcases hq with ⟨h1,h2⟩ | ⟨h1,h2⟩ | ⟨h1,h2,h3⟩
 ·have NA:=hZq (isnan_any q true w (by rw [h1];rfl))
  clear h1 h2;go_enter Tryz.func23,Tryz.ntmps23
  go_wp2_with fail
  refine NA.out.mono ?_;rintro en w1 ⟨rfl,rfl⟩;go_wp2
  go_ret2
  exact ⟨rfl,World.grownBy.refl _ _⟩
 ·have NA:=hZq (isnan_any q false w (by rw [h1];rfl))
  have e2:(FloatKind.f64.format.order q 0==some Ordering.lt)=true:=by rw [h2];rfl
  clear h1 h2;go_enter Tryz.func23,Tryz.ntmps23
  go_wp2_with fail
  refine NA.out.mono ?_;rintro en w1 ⟨rfl,rfl⟩;go_wp2
  go_ret2
  exact ⟨rfl,World.grownBy.refl _ _⟩
 ·have NA:=hZq (isnan_any q false w (by rw [h1];rfl))
  have e2:(FloatKind.f64.format.order q 0==some Ordering.lt)=false:=by rw [h2];rfl
  have e3:(FloatKind.f64.format.order q 4607182418800017408==some Ordering.gt)=true:=by rw [h3];rfl
  clear h1 h2 h3;go_enter Tryz.func23,Tryz.ntmps23
  go_wp2_with fail
  refine NA.out.mono ?_;rintro en w1 ⟨rfl,rfl⟩;go_wp2
  go_ret2
  exact ⟨rfl,World.grownBy.refl _ _⟩
theorem refQuantile_bad (a:Option Addr)(n c q:Nat)(w:World)(hq:(FloatKind.f64.format.order q q=none/\FloatKind.f64.format.order q 0=none)∨(FloatKind.f64.format.order q q=some .eq/\FloatKind.f64.format.order q 0=some .lt)∨(FloatKind.f64.format.order q q=some .eq/\FloatKind.f64.format.order q 0=some .gt/\FloatKind.f64.format.order q 4607182418800017408=some .gt)) :
  Calls Tryz.prog 24 #[.slice a n c,.float .f64 q] w fun en w'=>en=.returned (.tuple #[.float .f64 0,.int .i64 221])/\w.grownBy w' none:=by
 have key:(FloatKind.f64.format.order q 0==some Ordering.gt || FloatKind.f64.format.order q 0==some Ordering.eq)=false∨((FloatKind.f64.format.order q 0==some Ordering.gt || FloatKind.f64.format.order q 0==some Ordering.eq)=true/\(FloatKind.f64.format.order q 4607182418800017408==some Ordering.lt || FloatKind.f64.format.order q 4607182418800017408==some Ordering.eq)=false):=by
  rcases hq with ⟨h1,h2⟩ | ⟨h1,h2⟩ | ⟨h1,h2,h3⟩
  ·rw [h2];exact .inl rfl
  ·rw [h2];exact .inl rfl
  ·rw [h2,h3];exact .inr ⟨rfl,rfl⟩
 clear hq;rcases key with h | ⟨h,h2⟩
 ·go_enter Tryz.func24,Tryz.ntmps24
  go_wp2
  go_ret2
  exact ⟨rfl,World.grownBy.refl _ _⟩
 ·go_enter Tryz.func24,Tryz.ntmps24
  go_wp2
  go_ret2
  exact ⟨rfl,World.grownBy.refl _ _⟩
theorem refQuantile22 (t:Option TrT)(q base:Nat)(v:Value)(w:World)(h:TrS t)(ho:w.ownsRow base 3 1 v (lfZ t).length ((lfZ t).map (Value.int .i64)))(hq:ShF q) :
  Calls Tryz.prog 24 #[v,.float .f64 q] w fun en w'=>en=.returned (.tuple #[.float .f64 (qtV t q),.int .i64 (qtE t)])/\w.grownBy w' none:=by
 obtain ⟨a,c,rfl⟩:=own_shape10 ho;obtain ⟨o1,o2⟩:=sh_in22 hq;have hll:=lfz_le h;have RI:=hZq (refRising22 (lfZ t) base _ w ho hll);have HT:=hZq h;have HQ:=hZq hq;clear ho h hq;obtain ⟨n,hn⟩:∃ n,(lfZ t).length=n:=⟨_,rfl⟩;rw [hn] at RI hll ⊢;have HNN:=hZq hn;clear hn
 by_cases h0:n=0
 ·subst h0
  have HV:Hid (qtV t q=0/\qtE t=222):=by
   have e:lfZ t=[]:=List.length_eq_zero_iff.1 HNN.out;exact ⟨if_pos e,if_pos e⟩
  clear RI;go_enter Tryz.func24,Tryz.ntmps24;go_wp2
  go_ret2
  exact ⟨by rw [HV.out.1,HV.out.2];rfl,World.grownBy.refl _ _⟩
 ·have hne:lfZ t≠[]:=fun e=>h0 (by rw [<- HNN.out,e];rfl)
  have HV:Hid (qtV t q=shW (qqW (srS t) q ((lfZ t).length - 1))/\qtE t=0):=⟨if_neg hne,if_neg hne⟩;rw [HNN.out] at HV;have hn0:((n:Int)==0)=false:=by simp;omega
  clear hne;go_enter Tryz.func24,Tryz.ntmps24
  go_wp2_with fail
  refine RI.out.mono ?_;rintro en w3 ⟨v3,rfl,ho3,hg3⟩;obtain ⟨a3,c3,rfl⟩:=own_shape10 ho3
  obtain ⟨g,rfl⟩:∃ g,a3=some ⟨g,0,none⟩:=by
   rcases ho3.2 with ⟨_,e0⟩ | ⟨g,cap,cur,e,_⟩
   ·omega
   ·injection e with e1
    exact ⟨g,e1⟩
  have G3:=hZq hg3
  have hc:∀ i,i<n->w3.cell? ⟨g,i,none⟩=some (.int .i64 (srS t i:Nat)):=fun i hi=>by
   have h1:=ho3.cellAt i (by omega);rw [h1,List.getElem?_map,(srs_at HT.out (by rw [HNN.out];exact hi)).1]
   rfl
  have hm:∀ a b,a<=b->b<n->srS t a<=srS t b:=fun a b hab hb=>srs_rise HT.out hab (by rw [HNN.out];exact hb)
  have hb:∀ i,i<n->srS t i<100000:=fun i hi=>by have:=(srs_at HT.out (show i<(lfZ t).length by rw [HNN.out];exact hi)).2.2;omega
  clear ho3 hg3 RI o1 o2;have hqi:qqW (srS t) q (n - 1)<=infF:=Nat.le_of_lt (qq_lt (S:=srS t) (L:=n - 1) HQ.out (by omega) (fun a b hab hb=>hm a b hab (by omega)) (hb (n - 1) (by omega)));obtain ⟨L,hL⟩:∃ L,n - 1=L:=⟨_,rfl⟩;have hLn:L+1=n:=by omega
  rw [hL] at HV hqi;clear hL;obtain ⟨f1,f2,f3,f4,f5,f6⟩:=btf HQ.out (L:=L) (by omega);have HQQ:Hid (qqW (srS t) q L=if ipW q L=L then inF (srS t L) else hhW q L (srS t (ipW q L+1) - srS t (ipW q L)) (srS t (ipW q L))):=rfl;have r1:=fun (W:World)=>run_mul22 W (t:=26) f1
  have r2:=fun (W:World)=>conv_int22 W f2
  have e1:=floatOf_nat L;obtain ⟨pv,hpv⟩:∃ v,ppW q L=v:=⟨_,rfl⟩;obtain ⟨iv,hiv⟩:∃ v,ipW q L=v:=⟨_,rfl⟩;rw [hiv] at f3 f4 r2 HQQ;rw [hpv] at r1 r2 f4;have HPV:=hZq hpv;clear hpv hiv f1 f2;have i2:((n:Int) - 1)=(L:Int):=by omega
  have l0:(0:Int)<=(L:Int):=by omega
  have l1:(L:Int)<(n:Int):=by omega
  by_cases he:iv=L
  ·subst he
   rw [if_pos rfl] at HQQ;rw [HQQ.out] at hqi HV;have c0:=hc iv (by omega);have hd:=fun (W:World)=>run_quo22 W (t:=26) (sh_some hqi).1
   rw [in4092] at hd;have e2:=floatOf_nat (srS t iv);have j1:(iv:Int)<=(iv:Int):=by omega
   have HLN:=hZq hLn;clear f4 f5 f6 hc hm hb hqi hLn;generalize srS t iv=s0 at *;go_wp2
   go_ret2
   exact ⟨by rw [HV.out.1,HV.out.2];rfl,G3.out⟩
  ·rw [if_neg he] at HQQ
   have hlt:iv<L:=by omega
   have c0:=hc iv (by omega);have c1:=hc (iv+1) (by omega);have hs:=hm iv (iv+1) (by omega) (by omega);have hs1:=hb (iv+1) (by omega);obtain ⟨s0,h0'⟩:∃ s,srS t iv=s:=⟨_,rfl⟩;obtain ⟨s1,h1'⟩:∃ s,srS t (iv+1)=s:=⟨_,rfl⟩;rw [h0'] at c0 hs HQQ;rw [h1'] at c1 hs hs1 HQQ;rw [HQQ.out] at hqi HV;have f5':=f5 (s1 - s0) (by omega);have f6':=f6 (s1 - s0) s0 (by omega) (by omega);obtain ⟨fv,hfv⟩:∃ v,ffW q L=v:=⟨_,rfl⟩;obtain ⟨gv,hgv⟩:∃ v,ggW q L (s1 - s0)=v:=⟨_,rfl⟩;obtain ⟨hv,hhv⟩:∃ v,hhW q L (s1 - s0) s0=v:=⟨_,rfl⟩;rw [hfv] at f4 f5';rw [hgv] at f5' f6';rw [hhv] at f6' hqi HV;have r3:=fun (W:World)=>run_sub22 W (t:=26) f4
   have r4:=fun (W:World)=>run_mul22 W (t:=26) f5'
   have r5:=fun (W:World)=>run_add22 W (t:=26) f6'
   have r6:=fun (W:World)=>run_quo22 W (t:=26) (sh_some hqi).1
   rw [in4092] at r6;have e2:=floatOf_nat iv;have e3:=floatOf_nat (s1 - s0);have e4:=floatOf_nat s0;have e5:((s1 - s0:Nat):Int)=(s1:Int) - (s0:Int):=by omega
   rw [e5] at e3;have j1:¬ (L:Int)<=(iv:Int):=by omega
   have j2:¬ L<=iv:=by omega
   have i0:(0:Int)<=(iv:Int):=by omega
   have i1:(iv:Int)<(n:Int):=by omega
   have i4:(iv:Int)+1<(n:Int):=by omega
   have i5:(0:Int)<=(iv:Int)+1:=by omega
   have i6:((iv:Int)+1).toNat=iv+1:=by omega
   have w1:IntKind.i64.wrap ((iv:Int)+1)=(iv:Int)+1:=wrap_id22 (by omega) (by omega);have w2:IntKind.i64.wrap ((s1:Int) - (s0:Int))=(s1:Int) - (s0:Int):=wrap_id22 (by omega) (by omega);have T0:Hid (w3.drew.cell? ⟨g,iv,none⟩=some (.int .i64 (s0:Nat))/\w3.drew.cell? ⟨g,iv+1,none⟩=some (.int .i64 (s1:Nat))):=⟨c0,c1⟩;have HLN:=hZq hLn;clear f4 f5 f6 f5' f6' hc hm hb hfv hgv hhv h0' h1' hqi hLn e5 hs hs1 f3 hlt he;go_upto_region 12 with fail
   go_region_held3 (fun w'=>w'.cell? ⟨g,iv,none⟩=some (.int .i64 (s0:Nat))/\w'.cell? ⟨g,iv+1,none⟩=some (.int .i64 (s1:Nat))) (first | (with_reducible exact T0.out) | go_keep) (fail)
   go_wp2
   go_ret2
   exact ⟨by rw [HV.out.1,HV.out.2];rfl,gZq G3.out ((Qt.refl _).drew.grown none)⟩
end Go.Proofs.YteaahinjcfjngaaGreat
