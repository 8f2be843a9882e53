import Derived.Test.YteaahinjcfjngaaGreatQ48
set_option maxRecDepth 100000
set_option maxHeartbeats 8000000
namespace Go.Proofs.YteaahinjcfjngaaGreat
open Go.RowKit
theorem FrB.ck {q:Nat}{w w':World}(h:FrB q w w')(hq:w.heap.size<=q):CkF w w':=CkF.of (h.gr hq)
structure RnV (w:World)(b o:Nat)(n:RnT)(pa:Option Addr)(pn pc:Nat)(ca:Option Addr)(cn cc:Nat)(sa:Option Addr)(sn sc:Nat)(ka:Option Addr)(kn kc:Nat):Prop where
 c0:w.cell? ⟨b,o,none⟩=some (.int .i64 n.no)
 c1:w.cell? ⟨b,o+1,none⟩=some (.int .i64 n.lv)
 c2:w.cell? ⟨b,o+2,none⟩=some (.slice pa pn pc)
 c3:w.cell? ⟨b,o+3,none⟩=some (.slice ca cn cc)
 c4:w.cell? ⟨b,o+4,none⟩=some (.slice sa sn sc)
 c5:w.cell? ⟨b,o+5,none⟩=some (.slice ka kn kc)
 ps:RpU w pa pn pc n.ps
 cs:RcU w ca cn cc n.cs
 ss:SsU w sa sn sc n.ss
 ks:NmU w ka kn kc n.ks
structure RnU (w:World)(a:Option Addr)(xs:List RnT):Prop where
 at':∀ i x,xs[i]?=some x->∃ b off pa pn pc ca cn cc sa sn sc ka kn kc,a=some ⟨b,off,none⟩/\RnV w b (off+i*6) x pa pn pc ca cn cc sa sn sc ka kn kc
theorem RnV.kept {w w':World}{b o:Nat}{n:RnT}{pa:Option Addr}{pn pc:Nat}{ca:Option Addr}{cn cc:Nat}{sa:Option Addr}{sn sc:Nat}{ka:Option Addr}{kn kc:Nat}(h:RnV w b o n pa pn pc ca cn cc sa sn sc ka kn kc)(hg:CkF w w'):RnV w' b o n pa pn pc ca cn cc sa sn sc ka kn kc :=
 ⟨hg _ _ h.c0,hg _ _ h.c1,hg _ _ h.c2,hg _ _ h.c3,hg _ _ h.c4,hg _ _ h.c5,h.ps.kept hg,h.cs.kept hg,h.ss.kept hg,EsU.kept h.ks hg⟩
theorem RnU.kept {w w':World}{a:Option Addr}{xs:List RnT}(h:RnU w a xs)(hg:CkF w w'):RnU w' a xs:=⟨fun i x hx=>by
 obtain ⟨b,off,pa,pn,pc,ca,cn,cc,sa,sn,sc,ka,kn,kc,h1,h3⟩:=h.at' i x hx;exact ⟨b,off,pa,pn,pc,ca,cn,cc,sa,sn,sc,ka,kn,kc,h1,h3.kept hg⟩⟩
structure RnB (x:RnT):Prop where
 pn:x.ps.length<=2932031007402
 ps:∀ p∈x.ps,p.1.length<=140737488355328/\p.2.length<=140737488355328/\Bt p.1/\Bt p.2
 cs:∀ c∈x.cs,c.length<=17592186044416/\∀ z∈c,-9223372036854775808<=z/\z<=9223372036854775807
 ss:∀ s∈x.ss,s.length<=140737488355328/\Bt s
 no:-9223372036854775808<=x.no/\x.no<=9223372036854775807
def BkR (xs:List RnT)(t:Option TrT):Prop:=(xs=[]/\t=none)∨∃ (t0:TrT) (s':BdS) (a:Nat),t=some t0/\RuR ⟨[],[]⟩ 0 xs s'/\s'.parts=[(t0,a)]/\∀ n,xs[xs.length - 1]?=some n->n.ks.length≠1
theorem ad_len {s s':BdS}{k:Nat}{n:RnT}(h:AdR s k n s'):1<=s'.parts.length/\s'.parts.length<=s.parts.length+1:=by
 obtain ⟨_,⟨_,rfl⟩ | ⟨m,ns,ats,rest,_,hp,rfl⟩⟩:=h
 ·simp
 ·have:s.parts.length=rest.length+((upN m ns).zip ats).length:=by rw [hp,List.length_append]
  simp only [List.length_append,List.length_singleton];omega
theorem ru_len:∀ {l:List RnT} {s s':BdS} {k:Nat},RuR s k l s'->s'.parts.length<=s.parts.length+l.length/\(l≠[]->1<=s'.parts.length)
 | [],s,s',k,h=>by
  have e:s=s':=h;subst e;exact ⟨by simp,fun h=>absurd rfl h⟩
 | n::l,s,s',k,h=>by
  obtain ⟨s1,a,b⟩:=h;have h1:=ad_len a;have h2:=ru_len b;refine ⟨by rw [List.length_cons];omega,fun _=>?_⟩
  by_cases hl:l=[]
  ·subst hl
   have e:s1=s':=b;rw [<- e];exact h1.1
  ·exact h2.2 hl
theorem ru_ok {l:List RnT}{s:BdS}(h:RuR ⟨[],[]⟩ 0 l s):∀ e∈s.parts,OkT e.1.lv e.1.root/\e.1.lv<=15:=fun e he=>by
 have hI:=bd_all (l:=[]) (l2:=l) BdI.start h;have:=hI.ag e he;exact ⟨this.ok,this.hi⟩
def BldP (w:World)(xs:List RnT)(en:Ending)(w':World):Prop :=
 ((∃ p t,en=.returned (.tuple #[.pointer (some ⟨p,0,none⟩),.int .i64 0])/\TreeT w' p t/\BkR xs t)∨(en=.returned (.tuple #[.pointer none,.int .i64 100])/\∀ t,¬ BkR xs t))/\w.grownBy w' none
theorem bld_no {w w':World}{xs:List RnT}{en:Ending}(e:en=.returned (.tuple #[.pointer none,.int .i64 100]))(h:∀ t,¬ BkR xs t)(hf:w.grownBy w' none):BldP w xs en w':=⟨.inr ⟨e,h⟩,hf⟩
theorem bk_two {xs:List RnT}{s:BdS}(h:RuR ⟨[],[]⟩ 0 xs s)(hne:xs≠[])(k:s.parts.length≠1∨∃ n,xs[xs.length - 1]?=some n/\n.ks.length=1):∀ t,¬ BkR xs t:=fun t hb=>by
 rcases hb with ⟨e,_⟩ | ⟨t0,s',a,_,h1,h2,h3⟩
 ·exact hne e
 ·have e:=ru_det h1 h
  subst e;rcases k with k | ⟨n,k1,k2⟩
  ·rw [h2] at k
   exact k rfl
  ·exact h3 n k1 k2
theorem bu_new (w:World):BuT ((w.alloc (.map #[] 0)).alloc (.cells #[.slice none 0 0,.map (some w.heap.size)] 112)) (w.heap.size+1) w.heap.size w.heap.size (.slice none 0 0) ⟨[],[]⟩/\w.grownBy ((w.alloc (.map #[] 0)).alloc (.cells #[.slice none 0 0,.map (some w.heap.size)] 112)) none:=by
 have g1:=World.grownBy_alloc w (.map #[] 0) none;have g2:=World.grownBy_alloc (w.alloc (.map #[] 0)) (.cells #[.slice none 0 0,.map (some w.heap.size)] 112) none;have e:(w.alloc (.map #[] 0)).heap.size=w.heap.size+1:=by simp
 refine ⟨⟨?_,⟨[],⟨rfl,.inl ⟨rfl,rfl⟩⟩,ElyT.nil⟩,(SeT.made w).keptN g2,Nat.le_refl _,Nat.le_succ _⟩,gZq g1 g2⟩;have:=heap_alloc_new (w.alloc (.map #[] 0)) (.cells #[.slice none 0 0,.map (some w.heap.size)] 112);rw [e] at this;exact this
theorem build_u (a:Option Addr)(n c:Nat)(xs:List RnT)(w:World)(hx:RnU w a xs)(hn:xs.length=n)(hm:n<=4999)(hb:∀ x∈xs,RnB x) :
  Calls Tryz.prog 28 #[.slice a n c] w fun en w'=>BldP w xs en w':=by
 obtain ⟨nb,ng⟩:=bu_new w;have HX:=hZq hx;have HN:=hZq hn;have HB:=hZq hb;have NB:=hZq nb;have NG:=hZq (FrB.of (q:=w.heap.size) ng);clear hx hn hb nb ng;have hmm:=@run_makeMap Tryz.prog;go_enter Tryz.func28,Tryz.ntmps28;go_upto_region 2 with fail
 clear hmm;generalize (w.alloc (.map #[] 0)).alloc (.cells #[.slice none 0 0,.map (some w.heap.size)] 112)=w1 at *;generalize hBB:w.heap.size+1=B at *;generalize hbb:w.heap.size=b at *;have QB:Hid (b<=B):=by show b<=B;omega
 have HSB:=hZq hbb;clear hBB hbb
 go_wp2_with fail
 go_loopw [5,6,11] (fun _ _ si wr=>∃ (i:Nat) (s:BdS) (v:Value),i<=n/\si=.int .i64 (i:Nat)/\RuR ⟨[],[]⟩ 0 (xs.take i) s/\BuT wr B b b v s/\FrB b w wr) (fun _ _ si _=>n - (intOf si).toNat)
 case atStart=>exact ⟨0,_,_,Nat.zero_le _,rfl,rfl,NB.out,NG.out⟩
 case round =>
  obtain ⟨i,s,v,hi,rfl,hr,hbu,hf⟩:=hrel;have HR:=hZq hr;have HBU:=hZq hbu;have HF:=hZq hf;clear hr hbu hf NB NG
  by_cases hlt:i<n
  ·obtain ⟨x,hx⟩:∃ x,xs[i]?=some x:=⟨_,List.getElem?_eq_getElem (by have:=HN.out;omega)⟩
   obtain ⟨g,off,pa,pn,pc,ca,cn,cc,sa,sn,sc,ka,kn,kc,rfl,hx6⟩:=(HX.out.kept (HF.out.ck (Nat.le_of_eq HSB.out))).at' i x hx;have XB:=hZq (HB.out x (List.mem_of_getElem? hx));have X6:=hZq hx6;have HXI:=hZq hx;have y0:=hx6.c0;have y1:=hx6.c1;have y2:=hx6.c2;have y3:=hx6.c3;have y4:=hx6.c4;have y5:=hx6.c5;obtain ⟨no,hno⟩:∃ z,x.no=z:=⟨_,rfl⟩;obtain ⟨lv,hlv⟩:∃ z,x.lv=z:=⟨_,rfl⟩;rw [hno] at y0;rw [hlv] at y1;have HNO:=hZq hno;have HLV:=hZq hlv;have i1:(i:Int)<(n:Int):=by omega
   have i0:(0:Int)<=(i:Int):=by omega
   clear hx6 hx hno hlv;go_upto_region 5 with fail
   have ga:=World.grownBy_alloc wr (.cells #[.int .i64 no,.int .i64 lv,.slice pa pn pc,.slice ca cn cc,.slice sa sn sc,.slice ka kn kc] 61) none;have G2:=hZq ga;have R2:=hZq (heap_alloc_new wr (.cells #[.int .i64 no,.int .i64 lv,.slice pa pn pc,.slice ca cn cc,.slice sa sn sc,.slice ka kn kc] 61));clear ga y0 y1 y2 y3 y4 y5;generalize wr.alloc (.cells #[.int .i64 no,.int .i64 lv,.slice pa pn pc,.slice ca cn cc,.slice sa sn sc,.slice ka kn kc] 61)=w2 at *;generalize wr.heap.size=D at *;have BU2:=hZq (HBU.out.grown G2.out);have c0:w2.cell? ⟨D,0,none⟩=some (.int .i64 no):=cell_of_row w2 D 0 _ _ (0,0) R2.out;have c1:w2.cell? ⟨D,1,none⟩=some (.int .i64 lv):=cell_of_row w2 D 1 _ _ (0,0) R2.out;have c2:w2.cell? ⟨D,2,none⟩=some (.slice pa pn pc):=cell_of_row w2 D 2 _ _ (0,0) R2.out;have c3:w2.cell? ⟨D,3,none⟩=some (.slice ca cn cc):=cell_of_row w2 D 3 _ _ (0,0) R2.out;have c4:w2.cell? ⟨D,4,none⟩=some (.slice sa sn sc):=cell_of_row w2 D 4 _ _ (0,0) R2.out;have c5:w2.cell? ⟨D,5,none⟩=some (.slice ka kn kc):=cell_of_row w2 D 5 _ _ (0,0) R2.out;have AD:=hZq (add_any B b b i v s no lv x.ps x.cs x.ss x.ks pa pn pc ca cn cc sa sn sc ka kn kc w2 BU2.out (X6.out.ps.kept (CkF.of G2.out)) (X6.out.cs.kept (CkF.of G2.out)) (X6.out.ss.kept (CkF.of G2.out)) (EsU.kept X6.out.ks (CkF.of G2.out)) (by rw [<- X6.out.ps.len];exact XB.out.pn) (by have:=QB.out;have:=(Array.getElem?_eq_some_iff.1 BU2.out.box).1;omega) (by have:=(ru_len HR.out).1;rw [List.length_take] at this;simp only [List.length_nil] at this;omega) XB.out.ps XB.out.cs (ru_ok HR.out) XB.out.ss (by rw [<- HNO.out];exact XB.out.no));have HXE:Hid ((⟨no,lv,x.ps,x.cs,x.ss,x.ks⟩:RnT)=x):=by show _=_;rw [<- HNO.out,<- HLV.out]
   go_wp2_with fail
   refine AD.out.mono ?_;rintro en w3 ⟨⟨f,rfl,hf1,hf2⟩,hfx⟩;rw [HXE.out] at hf1 hf2;have F1:=hZq hf1;have F2:=hZq hf2;have X3:=hZq ((HF.out.trans (FrB.of G2.out)).trans hfx);clear hf1 hf2 hfx AD c0 c1 c2 c3 c4 c5;cases f with
   | false =>
    go_wp2
    go_ret2
    refine bld_no rfl (fun t k=>?_) (X3.out.gr (Nat.le_of_eq HSB.out));rcases k with ⟨e,_⟩ | ⟨t0,s',a',_,h1,_⟩
    ·have:=HN.out
     rw [e] at this;simp at this;omega
    ·have:=F2.out (ru_next h1 HR.out HXI.out)
     cases this
   | true =>
    have F9:=F1.out (by trivial);obtain ⟨s1,ha,v1,hb1⟩:=F9;have HA:=hZq ha;have HB1:=hZq hb1;clear ha hb1;go_wp2;go_roundw
    case rel=>exact ⟨i+1,s1,v1,by omega,by go_num,ru_snoc HR.out HXI.out HA.out,HB1.out,X3.out⟩
    case measure=>simp [intOf];omega
  ·have hin:i=n:=by omega
   have ht:xs.take i=xs:=List.take_of_length_le (by have:=HN.out;omega);rw [ht] at HR;clear ht hlt hi;subst hin
   by_cases h0:i=0
   ·subst h0
    have EM:=hZq (empty_any wr)
    go_wp2_with fail
    refine EM.out.mono ?_;rintro en w2 ⟨p,rfl,ht,hg⟩;have HT:=hZq ht;have X2:=hZq (HF.out.trans (FrB.of hg));clear ht hg EM;go_wp2
    go_ret2
    exact ⟨.inl ⟨p,none,rfl,HT.out,.inl ⟨List.eq_nil_of_length_eq_zero HN.out,rfl⟩⟩,X2.out.gr (Nat.le_of_eq HSB.out)⟩
   ·obtain ⟨m,rfl⟩:∃ m,i=m+1:=⟨i - 1,by omega⟩
    have HNE:Hid (xs≠[]):=fun e=>by have:=HN.out;rw [e] at this;simp at this
    obtain ⟨vA,vC,hv,hk1,hk2⟩:=HBU.out.ps.len;subst hv;have hk0:=(ru_len HR.out).2 HNE.out;obtain ⟨k,hk⟩:∃ k,s.parts.length=k:=⟨_,rfl⟩;rw [hk] at HBU hk1 hk0;have HK:=hZq hk;clear hk;have cB:wr.cell? ⟨B,0,none⟩=some (.slice vA k vC):=bu_cell0 HBU.out
    by_cases h1:(1:Int)<(k:Int)
    ·go_wp2
     go_ret2
     exact bld_no rfl (bk_two HR.out HNE.out (.inl (by rw [HK.out];omega))) (HF.out.gr (Nat.le_of_eq HSB.out))
    ·obtain ⟨x,hx⟩:∃ x,xs[m]?=some x:=⟨_,List.getElem?_eq_getElem (by have:=HN.out;omega)⟩
     obtain ⟨g,off,pa,pn,pc,ca,cn,cc,sa,sn,sc,ka,kn,kc,rfl,hx6⟩:=(HX.out.kept (HF.out.ck (Nat.le_of_eq HSB.out))).at' m x hx;have y5:=hx6.c5;have hkl:x.ks.length=kn:=by have:=hx6.ks.len;simpa using this
     have HKL:=hZq hkl
     have HXI:Hid (xs[xs.length - 1]?=some x):=by
      show xs[xs.length - 1]?=some x
      rw [HN.out,Nat.add_sub_cancel];exact hx
     clear hx6 hx hkl
     by_cases h2:kn=1
     ·have h2':((kn:Int)==1)=true:=by simp [h2]
      have H2:=hZq h2;clear h2;go_wp2
      go_ret2
      exact bld_no rfl (bk_two HR.out HNE.out (.inr ⟨x,HXI.out,by rw [HKL.out];exact H2.out⟩)) (HF.out.gr (Nat.le_of_eq HSB.out))
     ·have h2':((kn:Int)==1)=false:=by simp;omega
      have H2:=hZq h2;clear h2;obtain ⟨e,he⟩:∃ e,s.parts[0]?=some e:=⟨_,List.getElem?_eq_getElem (by have:=HK.out;omega)⟩;obtain ⟨gp,u,fa,fn,fc,la,ln,lc,rfl,_,hu,_,_,_,hnd,_,_⟩:=HBU.out.ps.part he;obtain ⟨T,b1,rfl⟩:=hnd.one
      have PE:Hid (s.parts=[e]):=by
       show s.parts=[e]
       have h9:=HK.out
       match hq:s.parts,he with
       | [y],he=>simpa using he
       | [],he=>simp at he
       | y::z::L,he=>rw [hq] at h9;simp at h9;omega
      rw [Nat.zero_mul] at hu;have AR:=hZq (alone_row hnd (World.grownBy.refl wr none));have q1:(0:Int)<(k:Int):=by omega
      clear hnd he hk0
      go_wp2_with fail
      refine AR.out.mono ?_;rintro en w2 ⟨⟨a2,m2,c2,sa2,sm2,sc2,rfl,hrow⟩,hg⟩;have RW:=hZq hrow;have X2:=hZq (HF.out.trans (FrB.of hg));clear hrow hg AR;go_wp2
      go_ret2
      exact ⟨.inl ⟨_,some e.1,rfl,tree_new (t:=some e.1) (RW.out.ns),.inr ⟨e.1,s,e.2,rfl,HR.out,PE.out,fun y hy=>by
       have h8:=HXI.out.symm.trans hy;simp only [Option.some.injEq] at h8;rw [<- h8,HKL.out];exact H2.out⟩⟩,(X2.out.trans (FrB.of (World.grownBy_alloc _ _ none))).gr (Nat.le_of_eq HSB.out)⟩
end Go.Proofs.YteaahinjcfjngaaGreat
