import Derived.Test.YteaahinjcfjngaaGreatQ51
import Derived.Deep.RegionHeld3
import Derived.Deep.DrawnRows
set_option maxRecDepth 100000
set_option maxHeartbeats 8000000
namespace Go.Proofs.YteaahinjcfjngaaGreat
open Go.RowKit
theorem btu_room {w:World}{a:Option Addr}{n c:Nat}{zs:List Int}(h:BtU w a n c zs):n=zs.length/\zs.length<=c/\c<=9223372036854775807:=by
 have:=h.b.len;have:=h.l1;have:=h.l2;omega
theorem RnU.nv {w:World}{a:Option Addr}{l:List RnT}{t:TrT}(h:RnU w a l)(hb:BlT l t):NvL w a (tellO (some t)):=fun i x hx=>by
 have hi:=(List.getElem?_eq_some_iff.1 hx).1;obtain ⟨n,hn⟩:∃ n,l[i]?=some n:=⟨_,List.getElem?_eq_getElem (by rw [hb.ln];exact hi)⟩;have he:=hb.eq i n x hn hx;obtain ⟨b,off,pa,pn,pc,ca,cn,cc,sa,sn,sc,ka,kn,kc,h1,h3⟩:=h.at' i n hn
 have hl:pn=x.ps.length:=by
  rw [<- he.ps];unfold zipR;rw [List.length_map,List.length_range];exact h3.ps.len.symm
 have hs:sn=x.ss.length:=by
  rw [<- he.ss];exact h3.ss.len.symm
 have k0:=h3.c0;have k1:=h3.c1;rw [he.no] at k0;rw [he.lv] at k1;subst hl hs;refine ⟨b,off,pa,pc,ca,cn,cc,sa,sc,ka,kn,kc,h1,⟨k0,k1,h3.c2,h3.c3,h3.c4,h3.c5,fun j p hp=>?_,⟨fun j hj=>?_⟩,h3.ss.cap.1,h3.ss.cap.2.1⟩⟩
 ·rw [<- he.ps] at hp
  unfold zipR at hp;rw [List.getElem?_map] at hp;obtain ⟨j',hj',rfl⟩:=Option.map_eq_some_iff.1 hp;have hjl:=(List.getElem?_eq_some_iff.1 hj').1;rw [List.length_range] at hjl;rw [List.getElem?_range hjl] at hj';obtain rfl:=Option.some.inj hj';obtain ⟨es,q1,q2⟩:=h3.ps.ex;obtain ⟨e,e1,ka',kn',kc',va',vn',vc',rfl,b1,b2⟩:=q2.get (List.getElem?_eq_getElem hjl);obtain ⟨g,off',e4,e5⟩:=q1.cell j _ e1;have r1:=btu_room b1;have r2:=btu_room b2;have x1:=e5 0 _ rfl;have x2:=e5 1 _ rfl;have y1:=b1.b;have y2:=b2.b;have z1:n.ps.getD j ([],[])=n.ps[j]:=by simp [List.getD,List.getElem?_eq_getElem hjl]
  rw [r1.1] at x1 y1;rw [r2.1] at x2 y2;simp only [z1];exact ⟨g,off',ka',kc',va',vc',e4,x1,x2,y1,y2,r1.2.1,r1.2.2,r2.2.1,r2.2.2⟩
 ·have hj2:j<n.ss.length:=by rw [he.ss];exact hj
  obtain ⟨g,off',ao,m,d,q1,q2,q3⟩:=h3.ss.str (List.getElem?_eq_getElem hj2);have r:=btu_room q3;have hgd:x.ss.getD j []=n.ss[j]:=by rw [<- he.ss];simp [List.getD,List.getElem?_eq_getElem hj2]
  rw [hgd];exact ⟨g,off',ao,m,d,q1,q2,q3.b,by omega,by omega⟩
def ikC (ka:Option Addr)(kc:Nat)(p:PrT):List Value:=[.slice ka p.key.length kc,.slice none 0 0,.int .i64 (p.val.length:Nat),.int .i64 0]
structure IkR (w:World)(es:List (List Value))(L:List PrT):Prop where
 len:es.length=L.length
 sz:∀ e∈es,e.length=4
 at':∀ (j:Nat) (p:PrT),L[j]?=some p->∃ ka kc,es[j]?=some (ikC ka kc p)/\Byt w ka p.key.length kc p.key/\p.key.length<=kc/\kc<=9223372036854775807
theorem IkR.nil (w:World):IkR w [] []:=⟨rfl,(fun e h=>by cases h),(fun j p h=>by simp at h)⟩
theorem IkR.kept {w w':World}{es:List (List Value)}{L:List PrT}(h:IkR w es L)(hg:w.grownBy w' none):IkR w' es L:=⟨h.len,h.sz,fun j p hp=>by
 obtain ⟨ka,kc,h1,h2,h3⟩:=h.at' j p hp;exact ⟨ka,kc,h1,h2.keptN hg,h3⟩⟩
theorem IkR.snoc {w:World}{es:List (List Value)}{L:List PrT}{p:PrT}{ka:Option Addr}{kc:Nat}(h:IkR w es L)(h2:Byt w ka p.key.length kc p.key)(h3:p.key.length<=kc)(h4:kc<=9223372036854775807):IkR w (es++[ikC ka kc p]) (L++[p]):=by
 have hl:=h.len;refine ⟨by rw [List.length_append,List.length_append,hl];rfl,fun e he=>?_,fun j q hq=>?_⟩
 ·rcases List.mem_append.1 he with h1 | h1
  ·exact h.sz e h1
  ·rw [List.mem_singleton.1 h1];rfl
 ·have hj:=(List.getElem?_eq_some_iff.1 hq).1
  rw [List.length_append,List.length_singleton] at hj
  by_cases hlt:j<L.length
  ·rw [List.getElem?_append_left hlt] at hq
   obtain ⟨ka',kc',k1,k2,k3⟩:=h.at' j q hq;exact ⟨ka',kc',by rw [List.getElem?_append_left (by omega)];exact k1,k2,k3⟩
  ·obtain rfl:j=L.length:=by omega
   rw [List.getElem?_append_right (Nat.le_refl _),Nat.sub_self] at hq;obtain rfl:=Option.some.inj hq;exact ⟨ka,kc,by rw [List.getElem?_append_right (by omega),hl,Nat.sub_self];rfl,h2,h3,h4⟩
theorem IkR.il {w:World}{es:List (List Value)}{L:List PrT}{base n c:Nat}{a:Option Addr}(h:IkR w es L)(ho:w.ownsRow base 122 4 (.slice a n c) n es.flatten)(hn:n=L.length):Il w a (its L):=by
 refine ⟨fun i hi=>?_⟩
 have hil:i<L.length:=by
  unfold its at hi;rw [List.length_map] at hi;exact hi
 have hx:L[i]?=some L[i]:=List.getElem?_eq_getElem hil;generalize L[i]=p at hx
 have hit:(its L).getD i it0=itm p:=by
  unfold its;simp [List.getD,List.getElem?_map,hx]
 obtain ⟨ka,kc,h1,h2,h3,h4⟩:=h.at' i p hx
 obtain ⟨g,rfl⟩:∃ g,a=some ⟨g,0,none⟩:=by
  rcases ho.2 with ⟨_,e0⟩ | ⟨g,cap,cur,e,_⟩
  ·omega
  ·injection e with e1
   exact ⟨g,e1⟩
 have cl:∀ f v,(ikC ka kc p)[f]?=some v->w.cell? ⟨g,0+i*4+f,none⟩=some v:=fun f v hf=>by
  have hf4:f<4:=(List.getElem?_eq_some_iff.1 hf).1;rw [Nat.zero_add,ho.cellAt (i*4+f) (by omega)];exact flat_at h.sz h1 hf
 rw [hit];exact ⟨g,0,ka,p.key.length,kc,none,0,0,rfl,cl 0 _ rfl,cl 1 _ rfl,cl 2 _ rfl,cl 3 _ rfl,h2,h3,h4,Byt.empty _,Nat.le_refl _,by omega⟩
theorem own_kept22 {w w':World}{base sz:Nat}{e:TypeId}{v:Value}{n:Nat}{xs:List Value}(h:w.ownsRow base e sz v n xs)(hg:w.grownBy w' none):w'.ownsRow base e sz v n xs :=
 h.kept hg (by cases v.ownBlock with | none=>exact .inl rfl | some g=>exact .inr (by simp))
theorem grown_app22 {w wr w':World}{o:Obj}{base n:Nat}{v:Value}{xs:List Value}{t:TypeId}{sz:Nat}(hg:w.grownBy wr none)(ho:wr.ownsRow base t sz v n xs)(hb:w.heap.size<=base)(h:(wr.alloc o).grownBy w' v.ownBlock):w.grownBy w' none:=by
 refine ⟨h.os.trans hg.os,h.tape.trans hg.tape,h.output.trans hg.output,?_,fun q hq _=>?_⟩
 ·have:=h.size;have:=hg.size;simp at *;omega
 ·have hq2:q<wr.heap.size:=Nat.lt_of_lt_of_le hq hg.size
  rw [h.block q (by simp;omega) (by intro e;have:=(ho.lt q e.symm).1;omega),Below.heap_alloc wr _ q hq2];exact hg.block q hq (by simp)
theorem itm_new (w:World)(vs:List Value)(t:TypeId):∀ j u,vs[j]?=some u->(w.alloc (.cells vs.toArray t)).cell? ((⟨w.heap.size,0,none⟩:Addr).add j)=some u:=by
 intro j u hu;rw [Addr.add_lit,Nat.zero_add,cell_of_row _ w.heap.size j _ _ (0,0) (heap_alloc_new w _)];simpa using hu
theorem refSize22 (x:NoT)(pa:Option Addr)(pc:Nat)(ca:Option Addr)(cn cc:Nat)(sa:Option Addr)(sc:Nat)(ka:Option Addr)(kn kc:Nat)(w:World)(hp:PxL w pa x.ps)(hs:Lz w sa x.ss)(hz:SzN x) :
  Calls Tryz.prog 38 #[.agg #[.int .i64 x.no,.int .i64 (x.lv:Int),.slice pa x.ps.length pc,.slice ca cn cc,.slice sa x.ss.length sc,.slice ka kn kc]] w fun en w'=>en=.returned (.int .i64 (nsz x:Nat))/\w.grownBy w' none:=by
 have HP:=hZq hp;have HS:=hZq hs;have HZ:=hZq hz;have ga:=World.grownBy_alloc w (.cells #[.int .i64 x.no,.int .i64 (x.lv:Int),.slice pa x.ps.length pc,.slice ca cn cc,.slice sa x.ss.length sc,.slice ka kn kc] 61) none;have X1:=hZq (heap_at0 w #[.int .i64 x.no,.int .i64 (x.lv:Int),.slice pa x.ps.length pc,.slice ca cn cc,.slice sa x.ss.length sc,.slice ka kn kc] 61);have GA:=hZq ga;clear ga hp hs hz;obtain ⟨lv,hlv⟩:∃ v,x.lv=v:=⟨_,rfl⟩;obtain ⟨pn,hpn⟩:∃ v,x.ps.length=v:=⟨_,rfl⟩;obtain ⟨sn,hsn⟩:∃ v,x.ss.length=v:=⟨_,rfl⟩;have HLV:=hZq hlv;have HPN:=hZq hpn;have HSN:=hZq hsn;rw [hlv,hpn,hsn] at X1 GA ⊢;obtain ⟨z,hzz⟩:∃ v,nsz x=v:=⟨_,rfl⟩;rw [hzz];have HNZ:=hZq hzz;clear hlv hpn hsn hzz;generalize x.no=no at *;go_enter Tryz.func38,Tryz.ntmps38;go_upto_region 1 with fail
 generalize w.alloc (.cells #[.int .i64 no,.int .i64 (lv:Int),.slice pa pn pc,.slice ca cn cc,.slice sa sn sc,.slice ka kn kc] 61)=w1 at *;generalize w.heap.size=D at *;have c1:=cell_heap (i:=1) X1.out rfl;have c2:=cell_heap (i:=2) X1.out rfl;have c4:=cell_heap (i:=4) X1.out rfl
 by_cases h0:0<lv
 ·have h0':(0:Int)<(lv:Int):=by omega
  have HV:Hid (bsize x.ss=z):=by show _=_;rw [<- HNZ.out];exact (if_neg (by rw [HLV.out];omega)).symm
  have RS:=hZq (refSize5_any sa sn sc x.ss w1 ⟨fun i hi=>by
   obtain ⟨b,off,ao,n,c,k1,k2,k3,k4⟩:=HS.out.row i hi;exact ⟨b,off,ao,n,c,k1,GA.out.cell k2 (by simp),k3.keptN GA.out,k4⟩⟩ HSN.out (by rw [<- HSN.out];exact Nat.le_trans HZ.out.sn (by decide)) (fun s hs=>Nat.le_trans (HZ.out.sv s hs) (by decide)))
  clear h0
  go_wp2_with fail
  refine RS.out.mono ?_;rintro en w2 ⟨rfl,hq⟩;have G2:=hZq (gZq GA.out (hq.grown none));clear hq RS;rw [HV.out];go_wp2;go_ret;exact ⟨rfl,G2.out⟩
 ·have h0':¬ (0:Int)<(lv:Int):=by omega
  have HV:Hid (size (its x.ps)=z):=by show _=_;rw [<- HNZ.out];exact (if_pos (by rw [HLV.out];omega)).symm
  obtain ⟨i0,hi,hz0,hz1,hz2⟩:=info_parts info_item10;have hpm:pn<=2046:=by rw [<- HPN.out];exact HZ.out.pn
  have HD:Hid (D<w1.heap.size):=(Array.getElem?_eq_some_iff.1 X1.out).1;clear h0
  go_wp2_with fail
  go_loopw [3,4] (fun s3 s4 wr=>∃ (k:Nat) (es:List (List Value)),k<=pn/\s4=.int .i64 (k:Nat)/\wr.ownsRow w1.heap.size 122 4 s3 k es.flatten/\IkR w1 es (x.ps.take k)/\w1.grownBy wr none) (fun _ s4 _=>pn - (intOf s4).toNat)
  case atStart=>exact ⟨0,[],Nat.zero_le _,rfl,⟨rfl,.inl ⟨rfl,rfl⟩⟩,IkR.nil _,World.grownBy.refl _ _⟩
  case round =>
   obtain ⟨k,es,hk,rfl,ho,hik,hg⟩:=hrel;have HO:=hZq ho;have HIK:=hZq hik;have HG:=hZq hg;have c2r:=hg.cell c2 (by simp);clear ho hik hg
   by_cases hlt:k<pn
   ·obtain ⟨q,hq⟩:∃ q,x.ps[k]?=some q:=⟨_,List.getElem?_eq_getElem (by have:=HPN.out;omega)⟩
    obtain ⟨pb,poff,ka',kc',va',vc',rfl,e0,e1,kb,vb,k1,k2,k3,k4⟩:=HP.out k q hq;have KB:=hZq kb;have HKR:Hid (q.key.length<=kc'/\kc'<=9223372036854775807):=⟨k1,k2⟩;have HT:Hid (x.ps.take (k+1)=x.ps.take k++[q]):=by show _=_;rw [List.take_add_one,hq];rfl
    have hqb:=HZ.out.pv q (List.mem_of_getElem? hq);have HQB:=hZq hqb;have KP:Hid (∀ W:World,w1.grownBy W none->W.cell? ⟨D,2,none⟩=some (.slice (some ⟨pb,poff,none⟩) pn pc)/\W.cell? ⟨pb,poff+k*2,none⟩=some (.slice ka' q.key.length kc')/\W.cell? ⟨pb,poff+k*2+1,none⟩=some (.slice va' q.val.length vc')):=fun W hW=>⟨hW.cell c2 (by simp),(gZq GA.out hW).cell e0 (by simp),(gZq GA.out hW).cell e1 (by simp)⟩
    have HGD:=hZq (gZq HG.out ((Qt.refl wr).drew.grown none));have HOD:=hZq (own_kept22 HO.out ((Qt.refl wr).drew.grown none));have TT:=hZq (KP.out _ HGD.out);have hwh:w1.heap.size<=wr.drew.heap.size:=HGD.out.size;clear kb vb k1 k2 k3 k4 e0 e1 hq hqb c2;have i0':(0:Int)<=(k:Int):=by omega
    have i1:(k:Int)<(pn:Int):=by omega
    obtain ⟨kl,hkl⟩:∃ v,q.key.length=v:=⟨_,rfl⟩;obtain ⟨vl',hvl⟩:∃ v,q.val.length=v:=⟨_,rfl⟩;rw [hkl,hvl] at KP TT;have hqv:vl'<=262144:=by rw [<- hvl];exact HQB.out.2.1
    have HKL:=hZq hkl;have HVL:=hZq hvl;clear hkl hvl;go_upto_region 7 with fail
    go_region_held3 (fun w'=>w'.cell? ⟨D,2,none⟩=some (.slice (some ⟨pb,poff,none⟩) pn pc)/\w'.cell? ⟨pb,poff+k*2,none⟩=some (.slice ka' kl kc')/\w'.cell? ⟨pb,poff+k*2+1,none⟩=some (.slice va' vl' vc')) (first | (with_reducible exact TT.out) | (with_reducible exact T4) | (exact KP.out _ (gZq HGD.out (World.grownBy_alloc _ _ none))) | go_keep)
     ((first
      | (refine step_append_own5 rfl (.tmp 18) (.tmp 33) 120 (by rfl) w1.heap.size 122 i0 (.agg #[.slice none 0 0,.slice none 0 0,.int .i64 0,.int .i64 0]) 4 64 Tryz.underlying120 hi hz0 hz1 hz2 rfl (by decide) u3 k es.flatten (by rfl) (by exact HOD.out.alloc _) ⟨wr.drew.heap.size,0,none⟩ 1 1 [.slice ka' kl kc',.slice none 0 0,.int .i64 vl',.int .i64 0] (by rfl) (by rfl) (by exact itm_new _ _ _) (by intro u hu;simp at hu;rcases hu with rfl | rfl | rfl | rfl <;> rfl) (by unfold maxLen;omega) (by omega) (by exact Nat.le_trans HGD.out.size (World.grownBy_alloc _ _ none).size) ?_;intro v4 w4 ho4 hg4;have hg04:=grown_app22 HGD.out HOD.out (Nat.le_refl _) hg4;have T4:=KP.out w4 hg04)))
    have HO4:=hZq ho4;have G4:=hZq hg04;clear ho4 hg4 hg04 T4 TT KP HO HOD
    go_wp2_with fail
    refine ⟨⟨k+1,es++[ikC ka' kc' q],by omega,by go_num,?_,?_,G4.out⟩,?_⟩
    ·have e:(es++[ikC ka' kc' q]).flatten=es.flatten++[.slice ka' kl kc',.slice none 0 0,.int .i64 vl',.int .i64 0]:=by
      rw [List.flatten_append,List.flatten_singleton];unfold ikC;rw [HKL.out,HVL.out]
     rw [e];exact HO4.out
    ·rw [HT.out]
     exact HIK.out.snoc (KB.out.keptN GA.out) HKR.out.1 HKR.out.2
    ·simp [intOf];omega
   ·obtain rfl:k=pn:=by omega
    have e:x.ps.take k=x.ps:=by rw [<- HPN.out,List.take_length]
    rw [e] at HIK;obtain ⟨a3,c3,rfl⟩:=own_shape10 HO.out
    have RS:=hZq (refSize_any a3 k c3 (its x.ps) wr ((HIK.out.kept HG.out).il HO.out HPN.out.symm) (by rw [its_len];exact HPN.out) (by omega) (fun y hy=>by
     unfold its at hy;obtain ⟨q,hq,rfl⟩:=List.mem_map.1 hy;exact Nat.le_trans (HZ.out.pv q hq).1 (by decide)))
    have G5:=hZq (gZq GA.out HG.out);clear HO HIK HG e
    go_wp2_with fail
    refine RS.out.mono ?_;rintro en w2 ⟨rfl,hq⟩;have G2:=hZq (gZq G5.out (hq.qt.grown none));clear hq RS;rw [HV.out];go_wp2;go_ret;exact ⟨rfl,G2.out⟩
def lzN (ns:List NoT)(lv:Nat):List Int:=(atL ns lv).map fun x=>((nsz x:Nat):Int)
theorem lzN_snoc (ns:List NoT)(lv:Nat)(x:NoT):lzN (ns++[x]) lv=if x.lv=lv then lzN ns lv++[((nsz x:Nat):Int)] else lzN ns lv:=by
 unfold lzN atL;rw [List.filter_append]
 by_cases h:x.lv=lv
 ·rw [if_pos h,List.filter_cons_of_pos (by simpa using h),List.map_append]
  rfl
 ·rw [if_neg h,List.filter_cons_of_neg (by simpa using h),List.filter_nil,List.append_nil]
theorem lzN_len (ns:List NoT)(lv k:Nat):(lzN (ns.take k) lv).length<=k:=by
 unfold lzN;rw [List.length_map];exact Nat.le_trans (atL_len _ _) (by rw [List.length_take];exact Nat.min_le_left _ _)
theorem refSizes22 (a:Option Addr)(n c:Nat)(ns:List NoT)(lv:Nat)(w:World)(h:NvL w a ns)(hn:ns.length=n)(hz:∀ x∈ns,SzN x)(hb:n<=100000) :
  Calls Tryz.prog 18 #[.slice a n c,.int .i64 (lv:Nat)] w fun en w'=>∃ v,en=.returned v/\w'.ownsRow w.heap.size 3 1 v (lzN ns lv).length ((lzN ns lv).map (Value.int .i64))/\w.grownBy w' none:=by
 obtain ⟨i0,hi,hz0,hz1,hz2⟩:=info_parts info_i10;have HV:=hZq h;have HN:=hZq hn;have HZ:=hZq hz;clear h hn hz;go_enter Tryz.func18,Tryz.ntmps18
 go_wp2_with fail
 go_loopw [5,6] (fun s5 s6 wr=>∃ k:Nat,k<=n/\s6=.int .i64 (k:Nat)/\wr.ownsRow w.heap.size 3 1 s5 (lzN (ns.take k) lv).length ((lzN (ns.take k) lv).map (Value.int .i64))/\w.grownBy wr none) (fun _ s6 _=>n - (intOf s6).toNat)
 case atStart=>exact ⟨0,Nat.zero_le _,rfl,⟨rfl,.inl ⟨rfl,rfl⟩⟩,World.grownBy.refl _ _⟩
 case round =>
  obtain ⟨k,hk,rfl,ho,hg⟩:=hrel;have HO:=hZq ho;have HG:=hZq hg;clear ho hg
  by_cases hlt:k<n
  ·obtain ⟨x,hx⟩:∃ x,ns[k]?=some x:=⟨_,List.getElem?_eq_getElem (by have:=HN.out;omega)⟩
   have SZ:=hZq (HZ.out x (List.mem_of_getElem? hx));have HT:Hid (ns.take (k+1)=ns.take k++[x]):=by show _=_;rw [List.take_add_one,hx];rfl
   have HSN:=hZq (lzN_snoc (ns.take k) lv x);rw [<- HT.out] at HSN;have HLE:=hZq (lzN_len ns lv k);obtain ⟨b,off,pa,pc,ca,cn,cc,sa,sc,ka,kn,kc,rfl,hv⟩:=(HV.out.cef (CeF.of HG.out)) k x hx;have RS:=hZq (refSize22 x pa pc ca cn cc sa sc ka kn kc wr hv.p hv.s SZ.out);have c0:=hv.c0;have c1:=hv.c1;have c2:=hv.c2;have c3:=hv.c3;have c4:=hv.c4;have c5:=hv.c5;clear hv hx;have i0':(0:Int)<=(k:Int):=by omega
   have i1:(k:Int)<(n:Int):=by omega
   have hxl:=SZ.out.lv
   by_cases hl:x.lv=lv
   ·rw [if_pos hl] at HSN
    have hl':((x.lv:Int)==(lv:Int))=true:=by rw [hl];simp
    rw [hl] at c1 hl' RS;clear hl hxl;obtain ⟨zs,hzs⟩:∃ v,lzN (ns.take k) lv=v:=⟨_,rfl⟩;rw [hzs] at HO HSN HLE;clear hzs;have hle:=HLE.out
    go_wp2_with fail
    refine RS.out.mono ?_;rintro en w2 ⟨rfl,hg2⟩;have HO2:=hZq (own_kept22 HO.out hg2);have G2:=hZq (gZq HG.out hg2);clear hg2 RS HO c0 c1 c2 c3 c4 c5
    go_wp2_with (at_builtin;refine wpList_append_own _ rfl _ _ 30 rfl w.heap.size 3 i0 (.int .i64 0) 1 8 Tryz.underlying30 hi hz0 hz1 hz2 rfl (by decide) _ zs.length (zs.map (Value.int .i64)) rfl (HO2.out.alloc _) ⟨w2.heap.size,0,none⟩ 1 1 [.int .i64 (nsz x:Nat)] rfl rfl (cell_one_new _ _ _) (by intro u hu;simp at hu;subst hu;rfl) (by unfold maxLen;omega) (by omega) (by exact Nat.le_trans G2.out.size (World.grownBy_alloc _ _ none).size) ?_)
    intro v4 w4 ho4 hg4 _;have G4:=hZq (grown_app22 G2.out HO2.out (Nat.le_refl _) hg4);have HO4:=hZq ho4;clear ho4 hg4 HO2
    go_wp2_with fail
    refine ⟨⟨k+1,by omega,by go_num,?_,G4.out⟩,?_⟩
    ·rw [HSN.out,List.map_append,List.length_append]
     exact HO4.out
    ·simp [intOf];omega
   ·rw [if_neg hl] at HSN
    have hl':((x.lv:Int)==(lv:Int))=false:=by rw [beq_eq_false_iff_ne];omega
    rw [<- HSN.out] at HO;clear hl
    go_wp2_with fail
    refine ⟨⟨k+1,by omega,by go_num,HO.out,HG.out⟩,?_⟩;simp [intOf];omega
  ·obtain rfl:k=n:=by omega
   have e:ns.take k=ns:=by rw [<- HN.out,List.take_length]
   rw [e] at HO;go_wp2;go_ret;exact ⟨_,rfl,HO.out,HG.out⟩
end Go.Proofs.YteaahinjcfjngaaGreat
