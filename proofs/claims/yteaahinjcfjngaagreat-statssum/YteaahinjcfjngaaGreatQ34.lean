import Derived.Test.YteaahinjcfjngaaGreatQ60
import Derived.Deep.CutBlock
import Derived.Test.YteaahinjcfjngaaGreatQ36
import Derived.Deep.RegionHeld3
import Derived.Lib.SlBytesConst
import Derived.Deep.QuietTactic
import Derived.Test.YteaahinjcfjngaaGreatQ57
import Derived.Test.YteaahinjcfjngaaGreatQ44
import Derived.Test.YteaahinjcfjngaaGreatQ45
set_option maxRecDepth 100000
set_option maxHeartbeats 8000000
namespace Go.Proofs.YteaahinjcfjngaaGreat
open Go.RowKit
theorem NmT.zr {w:World}{a:Option Addr}{n c:Nat}{zs:List Int}(h:NmT w a n c zs):ZrW w a zs:=fun i z hz=>by
 obtain ⟨b,off,h1,_,h3⟩:=h.cell i [.int .i64 z] (by rw [List.getElem?_map,hz];rfl);have:=h3 0 _ rfl;rw [Nat.mul_one,Nat.add_zero] at this;exact ⟨b,off,h1,this⟩
theorem zl_of {w:World}{lb:Nat}{a:Option Addr}{n c:Nat}{C:List (List Int)}(h:SlT w 30 1 (IcT w lb) a n c C):ZlW w a C:=fun i s hs=>by
 obtain ⟨es,h1,h2⟩:=h.ex;obtain ⟨e,e1,ao,m,d,rfl,k1,_⟩:=h2.get hs;obtain ⟨b,off,rfl,_,e2⟩:=h1.cell i _ e1;have:=e2 0 _ rfl;rw [Nat.mul_one,Nat.add_zero] at this;have hl:=k1.num;subst hl;exact ⟨b,off,ao,d,rfl,this,k1.zr⟩
theorem zl_le {w:World}{lb:Nat}{a:Option Addr}{n c:Nat}{C:List (List Int)}(h:SlT w 30 1 (IcT w lb) a n c C):∀ s∈C,s.length<=9223372036854775807:=fun s hs=>by
 obtain ⟨i,hi,rfl⟩:=List.getElem_of_mem hs;obtain ⟨es,h1,h2⟩:=h.ex;obtain ⟨e,e1,ao,m,d,_,k1,_⟩:=h2.get (List.getElem?_eq_getElem hi);have:=k1.num;have h3:=k1.cap;have h4:=k1.c2;omega
theorem SsT.bl {w:World}{a:Option Addr}{n c:Nat}{L:List (List Int)}(h:SsT w a n c L):BlW w a L:=fun i s hs=>by
 obtain ⟨b,off,ao,m,d,h1,h2,h3⟩:=h.str hs;have hl:=h3.b.len;subst hl;exact ⟨b,off,ao,d,h1,h2,h3.b⟩
structure NeX (w:World)(b o:Nat)(pa:Option Addr)(pc:Nat)(ca:Option Addr)(cc:Nat)(sa:Option Addr)(sc:Nat)(ka:Option Addr)(kc:Nat)(x:NoT):Prop where
 c0:w.cell? ⟨b,o,none⟩=some (.int .i64 x.no)
 c1:w.cell? ⟨b,o+1,none⟩=some (.int .i64 (x.lv:Int))
 c2:w.cell? ⟨b,o+2,none⟩=some (.slice pa x.ps.length pc)
 c3:w.cell? ⟨b,o+3,none⟩=some (.slice ca x.ps.length cc)
 c4:w.cell? ⟨b,o+4,none⟩=some (.slice sa x.ss.length sc)
 c5:w.cell? ⟨b,o+5,none⟩=some (.slice ka x.ks.length kc)
 r:NoW w pa pc ca sa ka x
 l1:x.ss.length<=9223372036854775807
 l2:x.ks.length<=9223372036854775807
 l3:∀ p∈x.ps,p.chain.length<=9223372036854775807
 l4:x.ps.length<=9223372036854775807
theorem NeX.kept {w w':World}{b o:Nat}{pa:Option Addr}{pc:Nat}{ca:Option Addr}{cc:Nat}{sa:Option Addr}{sc:Nat}{ka:Option Addr}{kc:Nat}{x:NoT}(h:NeX w b o pa pc ca cc sa sc ka kc x)(hg:w.grownBy w' none):NeX w' b o pa pc ca cc sa sc ka kc x :=
 ⟨hg.cell h.c0 (by simp),hg.cell h.c1 (by simp),hg.cell h.c2 (by simp),hg.cell h.c3 (by simp),hg.cell h.c4 (by simp),hg.cell h.c5 (by simp),h.r.kept hg,h.l1,h.l2,h.l3,h.l4⟩
def NlW (w:World)(a:Option Addr)(xs:List NoT):Prop:=∀ i x,xs[i]?=some x->∃ b off pa pc ca cc sa sc ka kc,a=some ⟨b,off,none⟩/\NeX w b (off+i*6) pa pc ca cc sa sc ka kc x
theorem ToM.at {w:World}{lb:Nat}:∀ {es:List (List Value)} {xs:List NoT} {lo hi i:Nat} {x:NoT},ToM w lb es xs lo hi->xs[i]?=some x->∃ e lo' hi',es[i]?=some e/\NoM w lb lo' hi' e x
 | [],[],_,_,i,_,_,hx=>by simp at hx
 | e::es,y::xs,_,_,0,x,h,hx=>by
  obtain ⟨m,_,_,h3,_⟩:=h;have:y=x:=by simpa using hx
  subst this;exact ⟨e,_,_,rfl,h3⟩
 | e::es,y::xs,_,_,i+1,x,h,hx=>by
  obtain ⟨m,_,_,_,h4⟩:=h;obtain ⟨e',lo',hi',k1,k2⟩:=h4.at (i:=i) (x:=x) (by simpa using hx);exact ⟨e',lo',hi',by simpa using k1,k2⟩
 | [],_::_,_,_,_,_,h,_=>h.elim
 | _::_,[],_,_,_,_,h,_=>h.elim
theorem nl_of {w:World}{a:Option Addr}{N c lb lo hi:Nat}{es:List (List Value)}{xs:List NoT}(ho:w.ownsRow lb 61 6 (.slice a N c) N es.flatten)(ht:ToM w lb es xs lo hi):NlW w a xs:=fun i x hx=>by
 obtain ⟨e,lo',hi',he,⟨vp,qs,ca,cn,cc,sa,sn,sc,ka,kn,kc,rfl,o1,o2,o3,o4,o5,o6,o7⟩⟩:=ht.at hx;obtain ⟨pa,pc,rfl⟩:=own_shape10 o1;have hk6:=(List.getElem?_eq_some_iff.1 he).1
 have hNl:es.length*6=es.flatten.length:=by
  have hz:=ht.sz;clear ho ht hx he hk6
  induction es with
  | nil=>rfl
  | cons y es ih =>
   rw [List.flatten_cons,List.length_append,<- ih (fun e he=>hz e (List.mem_cons_of_mem _ he)),List.length_cons,hz y List.mem_cons_self];omega
 have hon:=ho.1
 have hva:∃ g,a=some ⟨g,0,none⟩:=by
  rcases ho.2 with ⟨_,h0⟩ | ⟨g,cap,cur,hv,_⟩
  ·rw [h0] at hon
   omega
  ·exact ⟨g,by injection hv⟩
 obtain ⟨g,rfl⟩:=hva;have hcn:x.ps.length=cn:=by rw [<- o4.len,List.length_map]
 have hsn:x.ss.length=sn:=SlT.len o5;have hkn:x.ks.length=kn:=by rw [<- o6.num,List.length_map]
 have cel:∀ f u,[Value.int .i64 x.no,.int .i64 (x.lv:Int),.slice pa x.ps.length pc,.slice ca cn cc,.slice sa sn sc,.slice ka kn kc][f]?=some u->w.cell? ⟨g,0+i*6+f,none⟩=some u:=fun f u hu=>by
  have h6:f<6:=(List.getElem?_eq_some_iff.1 hu).1;have:=ho.cellAt (i*6+f) (by omega);rw [flat_at ht.sz he hu] at this;rw [Nat.zero_add];exact this
 refine ⟨g,0,pa,pc,ca,cc,sa,sc,ka,kc,rfl,?_⟩
 have hmp:MpW w pa x.ps.length pc x.ps:=by
  obtain ⟨a',c',e1,e2⟩:=MpW.of o1 (pvl_ps o3) rfl;injection e1 with e3 e4 e5
  subst e3;subst e5;exact e2
 have hs5:=SlT.cap o5;have hs4:=o4.cap;have hs6:=And.intro o6.cap o6.c2;refine ⟨cel 0 _ rfl,cel 1 _ rfl,cel 2 _ rfl,?_,?_,?_,⟨hmp,zl_of o4,SsT.bl o5,o6.zr⟩,by omega,by omega,fun p hp=>zl_le o4 _ (List.mem_map.2 ⟨p,hp,rfl⟩),by omega⟩
 ·rw [hcn];exact cel 3 _ rfl
 ·rw [hsn];exact cel 4 _ rfl
 ·rw [hkn];exact cel 5 _ rfl
def PxL (w:World)(a:Option Addr)(L:List PrT):Prop:=∀ i p,L[i]?=some p->∃ b off ka kc va vc,a=some ⟨b,off,none⟩/\w.cell? ⟨b,off+i*2,none⟩=some (.slice ka p.key.length kc)/\w.cell? ⟨b,off+i*2+1,none⟩=some (.slice va p.val.length vc) /\
 Byt w ka p.key.length kc p.key/\Byt w va p.val.length vc p.val/\p.key.length<=kc/\kc<=9223372036854775807/\p.val.length<=vc/\vc<=9223372036854775807
theorem PxL.cef {w W:World}(h:CeF w W){a:Option Addr}{L:List PrT}(k:PxL w a L):PxL W a L:=fun i p hp=>by
 obtain ⟨b,off,ka,kc,va,vc,h1,h2,h3,h4,h5,h6⟩:=k i p hp;exact ⟨b,off,ka,kc,va,vc,h1,h.cell h2,h.cell h3,byt_cef h h4,byt_cef h h5,h6⟩
theorem lz_cef {w W:World}(h:CeF w W){a:Option Addr}{L:List (List Int)}(k:Lz w a L):Lz W a L:=⟨fun i hi=>by
 obtain ⟨b,off,ao,n,c,h1,h2,h3,h4⟩:=k.row i hi;exact ⟨b,off,ao,n,c,h1,h.cell h2,byt_cef h h3,h4⟩⟩
structure NvX (w:World)(b o:Nat)(x:NoT)(pa:Option Addr)(pc:Nat)(ca:Option Addr)(cn cc:Nat)(sa:Option Addr)(sc:Nat)(ka:Option Addr)(kn kc:Nat):Prop where
 c0:w.cell? ⟨b,o,none⟩=some (.int .i64 x.no)
 c1:w.cell? ⟨b,o+1,none⟩=some (.int .i64 (x.lv:Int))
 c2:w.cell? ⟨b,o+2,none⟩=some (.slice pa x.ps.length pc)
 c3:w.cell? ⟨b,o+3,none⟩=some (.slice ca cn cc)
 c4:w.cell? ⟨b,o+4,none⟩=some (.slice sa x.ss.length sc)
 c5:w.cell? ⟨b,o+5,none⟩=some (.slice ka kn kc)
 p:PxL w pa x.ps
 s:Lz w sa x.ss
 s1:x.ss.length<=sc
 s2:sc<=9223372036854775807
theorem NvX.cef {w W:World}{b o:Nat}{x:NoT}{pa:Option Addr}{pc:Nat}{ca:Option Addr}{cn cc:Nat}{sa:Option Addr}{sc:Nat}{ka:Option Addr}{kn kc:Nat}(h:CeF w W)(k:NvX w b o x pa pc ca cn cc sa sc ka kn kc):NvX W b o x pa pc ca cn cc sa sc ka kn kc :=
 ⟨h.cell k.c0,h.cell k.c1,h.cell k.c2,h.cell k.c3,h.cell k.c4,h.cell k.c5,k.p.cef h,lz_cef h k.s,k.s1,k.s2⟩
def NvL (w:World)(a:Option Addr)(xs:List NoT):Prop:=∀ i x,xs[i]?=some x->∃ b off pa pc ca cn cc sa sc ka kn kc,a=some ⟨b,off,none⟩/\NvX w b (off+i*6) x pa pc ca cn cc sa sc ka kn kc
theorem NvL.cef {w W:World}(h:CeF w W){a:Option Addr}{xs:List NoT}(k:NvL w a xs):NvL W a xs:=fun i x hx=>by
 obtain ⟨b,off,pa,pc,ca,cn,cc,sa,sc,ka,kn,kc,h1,h2⟩:=k i x hx;exact ⟨b,off,pa,pc,ca,cn,cc,sa,sc,ka,kn,kc,h1,h2.cef h⟩
theorem bty_room {w:World}{a:Option Addr}{n c:Nat}{zs:List Int}(h:BtyT w a n c zs):n=zs.length/\zs.length<=c/\c<=9223372036854775807:=by
 have:=h.b.len;have:=h.l1;have:=h.l2;omega
theorem own_roomS {w:World}{base n k:Nat}{t:TypeId}{v:Value}{xs:List Value}(h:w.ownsRow base t k v n xs):∃ a c,v=.slice a n c/\n<=c/\c<=9223372036854775807:=by
 rcases h.2 with ⟨h1,h0⟩ | ⟨g,cap,cur,hv,_,_,hc,hm,_⟩
 ·exact ⟨none,0,by rw [h1,h0],by omega,by omega⟩
 ·exact ⟨_,cap,hv,hc,by unfold maxLen at hm;omega⟩
theorem pvl_atS {w:World}:∀ {es:List (List Value)} {ps:List PrT} {lo hi i:Nat} {p:PrT},PvL w es ps lo hi->ps[i]?=some p->∃ e lo' hi',es[i]?=some e/\PvT w lo' hi' e p
 | [],[],_,_,i,_,_,hx=>by simp at hx
 | e::es,y::xs,_,_,0,x,h,hx=>by
  obtain ⟨m,_,_,h3,_⟩:=h;have:y=x:=by simpa using hx
  subst this;exact ⟨e,_,_,rfl,h3⟩
 | e::es,y::xs,_,_,i+1,x,h,hx=>by
  obtain ⟨m,_,_,_,h4⟩:=h;obtain ⟨e',lo',hi',k1,k2⟩:=pvl_atS (i:=i) (p:=x) h4 (by simpa using hx);exact ⟨e',lo',hi',by simpa using k1,k2⟩
 | [],_::_,_,_,_,_,h,_=>h.elim
 | _::_,[],_,_,_,_,h,_=>h.elim
theorem PxL.of {w:World}{base n lo hi:Nat}{v:Value}{es:List (List Value)}{L:List PrT}(h:w.ownsRow base 64 2 v n es.flatten)(k:PvL w es L lo hi):∃ a c,v=.slice a n c/\PxL w a L:=by
 have kp:=pvl_ps k;obtain ⟨a,c,rfl,he⟩:=EsT.of_owns h (by decide) kp.sz kp.cells;refine ⟨a,c,rfl,fun i p hp=>?_⟩;obtain ⟨e,lo',hi',h1,kv,vv,mid,rfl,_,_,o1,o2⟩:=pvl_atS k hp;obtain ⟨b,off,h2,_,h3⟩:=he.cell i _ h1;obtain ⟨ka,kc,rfl,r1,r2⟩:=own_roomS o1.1;obtain ⟨va,vc,rfl,r3,r4⟩:=own_roomS o2.1;exact ⟨b,off,ka,kc,va,vc,h2,h3 0 _ rfl,h3 1 _ rfl,own_bytT o1.1,own_bytT o2.1,r1,r2,r3,r4⟩
theorem nv_of {w:World}{a:Option Addr}{N c lb lo hi:Nat}{es:List (List Value)}{xs:List NoT}(ho:w.ownsRow lb 61 6 (.slice a N c) N es.flatten)(ht:ToM w lb es xs lo hi):NvL w a xs:=fun i x hx=>by
 obtain ⟨b,off,pa,pc,ca,cc,sa,sc,ka,kc,h1,h2⟩:=nl_of ho ht i x hx;obtain ⟨e,lo',hi',he,⟨vp,qs,ca',cn',cc',sa',sn',sc',ka',kn',kc',rfl,o1,o2,o3,o4,o5,o6,o7⟩⟩:=ht.at hx
 have hev:EsT w 61 a N c 6 es:=by
  have hcl:∀ e∈es,∀ v∈e,v.oneCell'=true:=by
   intro e hm v hv;obtain ⟨j,hj,rfl⟩:=List.mem_iff_getElem.1 hm;have hjx:j<xs.length:=by have:=ht.len;omega
   obtain ⟨e2,_,_,q1,⟨vp2,qs2,_,_,_,_,_,_,_,_,_,rfl,p1,_⟩⟩:=ht.at (List.getElem?_eq_getElem hjx);rw [List.getElem?_eq_getElem hj] at q1;obtain ⟨pa2,pc2,rfl⟩:=own_shape10 p1;rw [Option.some.inj q1] at hv;simp only [List.mem_cons,List.not_mem_nil,or_false] at hv;rcases hv with rfl | rfl | rfl | rfl | rfl | rfl <;> rfl
  obtain ⟨a',c',e1,e2⟩:=EsT.of_owns ho (by decide) ht.sz hcl;injection e1 with e3 e4 e5
  subst e3 e5;exact e2
 obtain ⟨b',off',e1,_,e2⟩:=hev.cell i _ he;obtain ⟨pa',pc',rfl,px⟩:=PxL.of o1 o3;rw [h1] at e1
 obtain ⟨rfl,rfl⟩:b=b'/\off=off':=by
  have:=Option.some.inj e1;exact ⟨congrArg Addr.block this,congrArg Addr.off this⟩
 have x2:=e2 2 _ rfl;have x4:=e2 4 _ rfl;have z2:=h2.c2;have z4:=h2.c4;rw [x2] at z2;rw [x4] at z4;obtain rfl:pa'=pa:=by injection Option.some.inj z2
 obtain ⟨rfl,rfl,rfl⟩:sa'=sa/\sn'=x.ss.length/\sc'=sc:=by injection Option.some.inj z4 with e1 e2 e3;exact ⟨e1,e2,e3⟩
 refine ⟨b,off,pa',pc,ca,x.ps.length,cc,sa',sc',ka,x.ks.length,kc,h1,⟨h2.c0,h2.c1,h2.c2,h2.c3,h2.c4,h2.c5,px,⟨fun j hj=>?_⟩,o5.cap.1,o5.cap.2.1⟩⟩;obtain ⟨g,off',ao,m,d,q1,q2,q3⟩:=o5.str (List.getElem?_eq_getElem hj);have r:=bty_room q3;have hgd:x.ss.getD j []=x.ss[j]:=by simp [List.getD,List.getElem?_eq_getElem hj]
 rw [hgd];exact ⟨g,off',ao,m,d,q1,q2,q3.b,by omega,by omega⟩
theorem tk_q:∀ {zs S:List Int},tkL S zs=true->∀ z∈zs,2<=z/\z<524287/\z ∉ S
 | [],_,_,z,hz=>by simp at hz
 | y::zs,S,h,z,hz=>by
  rw [tkL,Bool.and_eq_true,decide_eq_true_eq] at h;rcases List.mem_cons.1 hz with rfl | hz
  ·exact h.1
  ·obtain ⟨h1,h2,h3⟩:=tk_q h.2 z hz
   exact ⟨h1,h2,fun hm=>h3 (List.mem_append_left _ hm)⟩
theorem conv10 (W:World)(C:Array Value)(n c k:Nat)(hk:k=W.heap.size) :
  (convert 62 62 (.slice (some ⟨k,0,none⟩) n c)).run Tryz.prog (W.alloc (.cells C 5))=.ok (.slice (some ⟨k,0,none⟩) n c) (W.alloc (.cells C 5 (C.size,C.size+1))):=by
 subst hk;exact Lib.run_convert_bytes_const (P:=Tryz.prog) W 62 5 C n c Tryz.underlying62 Tryz.underlying5
theorem lit10 (w:World)(e:TypeId)(fr:Nat × Nat)(z:Int):Byt (w.alloc (.cells #[.int .u8 z] e fr)) (some ⟨w.heap.size,0,none⟩) 1 1 [z]:=by
 refine Byt.of_cells rfl fun i hi=>?_
 have hi0:i=0:=by simpa using hi
 subst hi0;rw [cell_of_row (w.alloc (.cells #[.int .u8 z] e fr)) w.heap.size 0 _ e fr (heap_alloc_new w _)]
 rfl
theorem tk_nodup:∀ {zs S:List Int},tkL S zs=true->zs.Nodup
 | [],_,_=>List.nodup_nil
 | z::zs,S,h=>by
  rw [tkL,Bool.and_eq_true] at h;refine List.nodup_cons.2 ⟨fun hz=>?_,tk_nodup h.2⟩;exact (tk_q h.2 z hz).2.2 (List.mem_append_right _ List.mem_cons_self)
def nsz (x:NoT):Nat:=if x.lv=0 then size (its x.ps) else bsize x.ss
theorem sums_two (p:Nat):∀ L:List It,4*L.length<=sums p L+L.length
 | []=>Nat.zero_le _
 | x::L=>by
  have h1:=sums_two p L;have h2:=vl_pos (x.key.length - p);have h3:=vl_pos (tg x.size);rw [sums,List.length_cons];unfold cl;omega
structure SzN (x:NoT):Prop where
 hi:nsz x<=4092
 lo:5<=nsz x
 pn:x.ps.length<=2046
 pv:∀ p∈x.ps,p.key.length<=255/\p.val.length<=262144/\p.chain.length<=262144
 sn:x.ss.length<=2046
 sv:∀ s∈x.ss,s.length<=255
 lv:x.lv<=1000000
theorem size_few {L:List PrT}(h:size (its L)<=4092)(h0:L≠[]):L.length<=2046/\5<=size (its L):=by
 have h1:=sums_two (pre (its L)) (its L);have h2:(its L).length=L.length:=by unfold its;rw [List.length_map]
 have h3:0<L.length:=List.length_pos_iff.2 h0;have h4:=vl_pos (pre (its L));unfold size at h ⊢;omega
theorem told_sz:∀ (n k:Nat) (x:NdT n),OkT n x->n<=1000000->(∀ p∈flatT n x,p.chain.length<=262144)->∀ v∈tellT n k x,SzN v
 | 0,k,x,hx,_,hc,v,hv=>by
  have e:v=⟨LfT.no x,0,LfT.ps x,[],[]⟩:=by simpa [tellT] using hv
  subst e;obtain ⟨h1,h2,h3,h4⟩:=hx;have h5:=size_few h3 h1;exact ⟨h3,h5.2,h5.1,fun p hp=>⟨(h4 p hp).k2,(h4 p hp).v1,hc p hp⟩,Nat.zero_le _,(fun s hs=>by cases hs),Nat.zero_le _⟩
 | n+1,k,x,hx,hn,hc,v,hv=>by
  obtain ⟨x1,x2,x3,x4,x5⟩:=hx;rw [tellT,List.mem_append,List.mem_singleton] at hv;rcases hv with hv | rfl
  ·obtain ⟨y,k',hy,hyv⟩:=tellL_mem hv
   exact told_sz n k' y (x2 y hy) (by omega) (fun p hp=>hc p (List.mem_flatMap.2 ⟨y,hy,hp⟩)) v hyv
  ·have h1:=seps_few x4
   refine ⟨x4,?_,Nat.zero_le _,(fun p hp=>by cases hp),by show (BnT.row (T:=NdT n) x).ss.length<=2046;omega,fun s hs=>(x5 s hs).k2,hn⟩
   show 5<=bsize (BnT.row (T:=NdT n) x).ss
   unfold bsize;omega
theorem told_lv:∀ (n k:Nat) (x:NdT n),OkT n x->∀ i,i<=n->∃ v∈tellT n k x,v.lv=i
 | 0,k,x,_,i,hi=>⟨⟨LfT.no x,0,LfT.ps x,[],[]⟩,by simp [tellT],by show 0=i;omega⟩
 | n+1,k,x,hx,i,hi=>by
  rw [tellT]
  by_cases h:i=n+1
  ·exact ⟨_,List.mem_append_right _ (List.mem_singleton.2 rfl),h.symm⟩
  ·obtain ⟨x1,x2,_⟩:=hx
   obtain ⟨y,L,he⟩:=List.exists_cons_of_ne_nil x1;obtain ⟨v,h1,h2⟩:=told_lv n k y (x2 y (by rw [he];exact List.mem_cons_self)) i (by omega);refine ⟨v,List.mem_append_left _ ?_,h2⟩;rw [he,tellL];exact List.mem_append_left _ h1
def atL (xs:List NoT)(i:Nat):List NoT:=xs.filter fun x=>decide (x.lv=i)
theorem atL_snoc (xs:List NoT)(x:NoT)(i:Nat):atL (xs++[x]) i=atL xs i++(if x.lv=i then [x] else []):=by
 unfold atL;rw [List.filter_append]
 congr 1
 by_cases h:x.lv=i
 ·rw [if_pos h,List.filter_cons_of_pos (by simpa using h),List.filter_nil]
 ·rw [if_neg h,List.filter_cons_of_neg (by simpa using h),List.filter_nil]
theorem atL_take {xs:List NoT}{k:Nat}{x:NoT}(h:xs[k]?=some x)(i:Nat):atL (xs.take (k+1)) i=atL (xs.take k) i++(if x.lv=i then [x] else []):=by
 rw [List.take_add_one,h];exact atL_snoc _ _ _
theorem atL_mem {xs:List NoT}{i:Nat}{x:NoT}(h:x∈atL xs i):x∈xs:=(List.mem_filter.1 h).1
def chN (n:Nat):Nat:=if n<=512 then 0 else (n+4084) / 4085
def kbN (x:NoT):Nat:=sumT (fun p:PrT=>p.key.length) x.ps
def vbN (x:NoT):Nat:=sumT (fun p:PrT=>p.val.length) x.ps
def pgN (x:NoT):Nat:=1+sumT (fun p:PrT=>chN p.val.length) x.ps
def usN (x:NoT):Nat:=nsz x+sumT (fun p:PrT=>if 512<p.val.length then p.val.length else 0) x.ps
def fdN (f:NoT->Int->Int):List NoT->Int->Int
 | [],z=>z
 | x::xs,z=>fdN f xs (f x z)
theorem fdN_app (f:NoT->Int->Int):∀ (A B:List NoT) (z:Int),fdN f (A++B) z=fdN f B (fdN f A z)
 | [],_,_=>rfl
 | x::A,B,z=>fdN_app f A B (f x z)
theorem fdN_add (g:NoT->Nat):∀ (xs:List NoT) (z:Int),fdN (fun x z=>z+(g x:Int)) xs z=z+(sumT g xs:Nat)
 | [],z=>by simp [fdN,sumT]
 | x::xs,z=>by rw [fdN,fdN_add g xs,sumT];omega
theorem sizeOf_B (x:NoT)(no:Int)(pa:Option Addr)(pn pc:Nat)(ca:Option Addr)(cn cc:Nat)(sa:Option Addr)(sn sc:Nat)(ka:Option Addr)(kn kc:Nat)(w:World)(hs:Lz w sa x.ss)(hn:x.ss.length=sn)(s1:sn<=sc)(s2:sc<=9223372036854775807)(hz:SzN x)(hl:0<x.lv) :
  Calls Tryz.prog 59 #[.agg #[.int .i64 no,.int .i64 (x.lv:Int),.slice pa pn pc,.slice ca cn cc,.slice sa sn sc,.slice ka kn kc]] w fun en w'=>en=.returned (.int .i64 (nsz x:Nat))/\w.grownBy w' none:=by
 have hsz:nsz x=bsize x.ss:=by unfold nsz;rw [if_neg (by omega)]
 have hlv:=hz.lv;have hsn:=hz.sn;have HS:=hZq hs;have HZ:=hZq hz;have HN:=hZq hn;obtain ⟨lv,hlv2⟩:∃ lv:Int,(x.lv:Int)=lv:=⟨_,rfl⟩;have g1:0<lv:=by omega
 rw [hlv2,hsz];have ga:=World.grownBy_alloc w (.cells #[.int .i64 no,.int .i64 lv,.slice pa pn pc,.slice ca cn cc,.slice sa sn sc,.slice ka kn kc] 61) none;have X:=hZq (heap_at0 w #[.int .i64 no,.int .i64 lv,.slice pa pn pc,.slice ca cn cc,.slice sa sn sc,.slice ka kn kc] 61);have GA:=hZq ga;have SC:=hZq (fun (W:World) (h:w.grownBy W none)=>bsize_any sa sn sc x.ss W (lz_cef (CeF.of h) hs) hn (by omega) s1 s2 (fun s h=>Nat.le_trans (hz.sv s h) (by decide)));clear hs hz hn hlv hlv2 hsz ga hsn;go_enter Tryz.func59,Tryz.ntmps59;go_upto_region 1 with fail
 generalize w.alloc (.cells #[.int .i64 no,.int .i64 lv,.slice pa pn pc,.slice ca cn cc,.slice sa sn sc,.slice ka kn kc] 61)=w1 at *;obtain ⟨B,hB⟩:∃ B,w.heap.size=B:=⟨_,rfl⟩;rw [hB] at X ⊢;clear hB;have x1:=cell_heap (i:=1) X.out rfl;have x4:=cell_heap (i:=4) X.out rfl
 go_wp2_with fail
 refine (SC.out _ GA.out).mono ?_;rintro en w2 ⟨rfl,hg2⟩;have G2:=hZq (gZq GA.out hg2);clear hg2;go_wp2;go_ret;exact ⟨rfl,G2.out⟩
def PiI (w:World)(e:List Value)(p:PrT):Prop:=∃ ka kc,e=[.slice ka p.key.length kc,.slice none 0 0,.int .i64 p.val.length,.int .i64 0]/\Byt w ka p.key.length kc p.key/\p.key.length<=kc/\kc<=9223372036854775807
structure PsI (w:World)(es:List (List Value))(L:List PrT):Prop where
 len:es.length=L.length
 get:∀ (i:Nat) (e:List Value) (p:PrT),es[i]?=some e->L[i]?=some p->PiI w e p
theorem PsI.nil (w:World):PsI w [] []:=⟨rfl,fun i e p h _=>by simp at h⟩
theorem PsI.app {w:World}{es:List (List Value)}{L:List PrT}{e:List Value}{p:PrT}(h:PsI w es L)(k:PiI w e p):PsI w (es++[e]) (L++[p]):=by
 have hl:=h.len;refine ⟨by rw [List.length_append,List.length_append,hl];rfl,fun i e' p' h1 h2=>?_⟩
 by_cases hi:i<es.length
 ·rw [List.getElem?_append_left hi] at h1
  rw [List.getElem?_append_left (by omega)] at h2;exact h.get i e' p' h1 h2
 ·have h3:=(List.getElem?_eq_some_iff.1 h1).1
  rw [List.length_append,List.length_singleton] at h3;obtain rfl:i=es.length:=by omega
  rw [List.getElem?_append_right (Nat.le_refl _),Nat.sub_self] at h1;rw [hl,List.getElem?_append_right (Nat.le_refl _),Nat.sub_self] at h2;obtain rfl:e=e':=Option.some.inj h1;obtain rfl:p=p':=Option.some.inj h2;exact k
theorem PsI.il {w0 w:World}{t:TypeId}{a:Option Addr}{n c:Nat}{es:List (List Value)}{L:List PrT}(h:PsI w0 es L)(he:EsT w t a n c 4 es)(hg:CeF w0 w):Il w a (its L):=by
 refine ⟨fun i hi=>?_⟩;have hi2:i<L.length:=by unfold its at hi;rwa [List.length_map] at hi
 have hle:=h.len;obtain ⟨ka,kc,e1,e2,e3,e4⟩:=h.get i _ _ (List.getElem?_eq_getElem (by omega)) (List.getElem?_eq_getElem hi2);have hx:(its L).getD i it0=itm L[i]:=by unfold its;simp [List.getD,hi2]
 obtain ⟨b,off,rfl,_,q⟩:=he.cell i _ (List.getElem?_eq_getElem (by omega:i<es.length));rw [e1] at q;rw [hx];exact ⟨b,off,ka,_,kc,none,0,0,rfl,q 0 _ rfl,q 1 _ rfl,q 2 _ rfl,q 3 _ rfl,byt_cef hg e2,e3,e4,Byt.empty _,Nat.le_refl _,by omega⟩
theorem sizeOf_L (x:NoT)(no:Int)(pa:Option Addr)(pn pc:Nat)(ca:Option Addr)(cn cc:Nat)(sa:Option Addr)(sn sc:Nat)(ka:Option Addr)(kn kc:Nat)(w:World)(hp:PxL w pa x.ps)(hn:x.ps.length=pn)(hz:SzN x)(hl:x.lv=0) :
  Calls Tryz.prog 59 #[.agg #[.int .i64 no,.int .i64 0,.slice pa pn pc,.slice ca cn cc,.slice sa sn sc,.slice ka kn kc]] w fun en w'=>en=.returned (.int .i64 (nsz x:Nat))/\w.grownBy w' none:=by
 obtain ⟨i0,hi,hz0,hz1,hz2⟩:=info_parts info_item10;have hsz:nsz x=size (its x.ps):=by unfold nsz;rw [if_pos hl]
 have hpm:pn<=2046:=by rw [<- hn];exact hz.pn
 have HN:=hZq hn;have HZ:=hZq hz;rw [hsz];have ga:=World.grownBy_alloc w (.cells #[.int .i64 no,.int .i64 0,.slice pa pn pc,.slice ca cn cc,.slice sa sn sc,.slice ka kn kc] 61) none;have X:=hZq (heap_at0 w #[.int .i64 no,.int .i64 0,.slice pa pn pc,.slice ca cn cc,.slice sa sn sc,.slice ka kn kc] 61);have GA:=hZq ga;have HL:=hZq (hp.cef (CeF.of ga));clear hp hz hn hsz ga hl;go_enter Tryz.func59,Tryz.ntmps59;go_upto_region 1 with fail
 generalize w.alloc (.cells #[.int .i64 no,.int .i64 0,.slice pa pn pc,.slice ca cn cc,.slice sa sn sc,.slice ka kn kc] 61)=w1 at *;obtain ⟨B,hB⟩:∃ B,w.heap.size=B:=⟨_,rfl⟩;have HB:=hZq hB;rw [hB] at X ⊢;clear hB;have x1:=cell_heap (i:=1) X.out rfl;have x2:=cell_heap (i:=2) X.out rfl
 go_wp2_with (at_make;refine wpList_make_full _ rfl _ _ 120 rfl w1.heap.size 122 i0 (.agg #[.slice none 0 0,.slice none 0 0,.int .i64 0,.int .i64 0]) 4 Tryz.underlying120 hi hz0 hz1 _ _ _ _ pn rfl rfl rfl rfl ?b2 ?b3 (Nat.le_refl _) ?_)
 case b2=>rw [hz2];have:=HN.out;omega
 case b3=>unfold maxLen;have:=HN.out;omega
 intro w0 hown0 hgrow0;have F0:=hZq (FlT.start hown0);have G0:=hZq hgrow0;have X0:=hZq (heap_kept X.out hgrow0);have HZ1:Hid (w.heap.size<=w1.heap.size):=GA.out.size;have HB1:Hid (B<w1.heap.size):=(Array.getElem?_eq_some_iff.1 X.out).1;obtain ⟨g,hg0⟩:∃ g,w1.heap.size=g:=⟨_,rfl⟩;rw [hg0] at F0 HB1 HZ1 ⊢;have HGS:=hZq hg0;clear hown0 hgrow0 hg0 x1 x2;have x2:=cell_heap (i:=2) X0.out rfl
 go_wp2_with fail
 go_loopw [19] (fun si wr=>∃ (k:Nat) (es:List (List Value)),k<=pn/\si=.int .i64 (k:Nat)/\es.length=k/\FlT wr g pn 4 122 es/\PsI w1 es (x.ps.take k)/\w1.grownBy wr none) (fun si _=>pn - (intOf si).toNat)
 case atStart=>exact ⟨0,[],Nat.zero_le _,rfl,rfl,F0.out,PsI.nil _,G0.out⟩
 case round =>
  obtain ⟨k,es,hk,rfl,hes,hfl,hel,hg⟩:=hrel;have HF:=hZq hfl;have HE:=hZq hel;have HG:=hZq hg
  by_cases hlt:k<pn
  ·obtain ⟨p,hx⟩:∃ p,x.ps[k]?=some p:=⟨_,List.getElem?_eq_getElem (by have:=HN.out;omega)⟩
   obtain ⟨b,off,ka',kc',va',vc',rfl,c0,c1,b0,b1,r0,r1,r2,r3⟩:=HL.out k p hx;have d0:=hg.cell c0 (by simp);have d1:=hg.cell c1 (by simp);obtain ⟨⟨v0,f0⟩,z0⟩:=hfl.cell (j:=k*4) (by omega);obtain ⟨⟨v1,f1⟩,z1⟩:=hfl.cell (j:=k*4+1) (by omega);obtain ⟨⟨v2,f2⟩,z2⟩:=hfl.cell (j:=k*4+2) (by omega);obtain ⟨⟨v3,f3⟩,z3⟩:=hfl.cell (j:=k*4+3) (by omega);have hgl:=hfl.lt;have HP:Hid (PiI w1 [.slice ka' p.key.length kc',.slice none 0 0,.int .i64 p.val.length,.int .i64 0] p):=⟨ka',kc',rfl,b0,r0,r1⟩;have HX:=hZq hx;clear hfl hel hg c0 c1 b0 b1 r0 r1 r2 r3 hx;generalize p.key.length=kn' at *;generalize p.val.length=vn' at *;have i1:(k:Int)<(pn:Int):=by omega
   have i0:(0:Int)<=(k:Int):=by omega
   go_wp2;subst hes;have hnx2:=(HF.out.next hlt [.slice ka' kn' kc',.slice none 0 0,.int .i64 vn',.int .i64 0] rfl (by simp [Value.oneCell'])).keptN (World.grownBy_alloc _ (.cells #[.slice ka' kn' kc',.slice va' vn' vc'] 64) none);have hgx:=grown_new HG.out (gZq (setL_grown (g:=g) [.slice ka' kn' kc',.slice none 0 0,.int .i64 vn',.int .i64 0] wr (es.length*4)) (World.grownBy_alloc _ (.cells #[.slice ka' kn' kc',.slice va' vn' vc'] 64) _)) (Nat.le_of_eq HGS.out);have hls:(es++[[Value.slice ka' kn' kc',Value.slice none 0 0,Value.int .i64 vn',Value.int .i64 0]]).length=es.length+1:=by simp
   refine ⟨⟨es.length+1,_,by omega,by go_num,hls,hnx2,?_,hgx⟩,by simp [intOf];omega⟩;rw [List.take_add_one,HX.out];exact HE.out.app HP.out
  ·have hin:k=pn:=by omega
   subst hin;clear hfl hel hg
   have he:Il wr (some ⟨g,0,none⟩) (its x.ps):=by
    have h1:=HE.out;rw [<- HN.out,List.take_length] at h1;exact h1.il (HF.out.es hes (by have:=HN.out;omega)) (CeF.of HG.out)
   go_wp2_with fail
   refine (size_any (some ⟨g,0,none⟩) _ _ (its x.ps) _ he (by unfold its;rw [List.length_map];exact HN.out) (by omega) (fun y hy=>by
    obtain ⟨p,hp,rfl⟩:=List.mem_map.1 hy;exact Nat.le_trans (HZ.out.pv p hp).1 (by decide))).mono ?_
   rintro en w2 ⟨rfl,hg2⟩;have G2:=hZq (gZq GA.out (gZq HG.out hg2));clear hg2;go_wp2;go_ret;exact ⟨rfl,G2.out⟩
theorem info_snode:(Tryz.prog.info? 80).map (fun i=>(i.zero,i.size,i.bytes))=some (some (.agg #[.int .i64 0,.int .i64 0,.slice none 0 0,.slice none 0 0,.slice none 0 0,.slice none 0 0,.int .i64 0]),7,120):=by kernel_rfl
theorem sizeOf_any (x:NoT)(no:Int)(pa:Option Addr)(pc:Nat)(ca:Option Addr)(cn cc:Nat)(sa:Option Addr)(sc:Nat)(ka:Option Addr)(kn kc:Nat)(w:World)(hp:PxL w pa x.ps)(hs:Lz w sa x.ss)(s1:x.ss.length<=sc)(s2:sc<=9223372036854775807)(hz:SzN x) :
  Calls Tryz.prog 59 #[.agg #[.int .i64 no,.int .i64 (x.lv:Int),.slice pa x.ps.length pc,.slice ca cn cc,.slice sa x.ss.length sc,.slice ka kn kc]] w fun en w'=>en=.returned (.int .i64 (nsz x:Nat))/\w.grownBy w' none:=by
 by_cases hl:x.lv=0
 ·have:=sizeOf_L x no pa x.ps.length pc ca cn cc sa x.ss.length sc ka kn kc w hp rfl hz hl
  rw [hl];exact this
 ·exact sizeOf_B x no pa x.ps.length pc ca cn cc sa x.ss.length sc ka kn kc w hs rfl s1 s2 hz (by omega)
structure NoV (w:World)(x:NoT)(pa:Option Addr)(sa:Option Addr)(sc:Nat):Prop where
 p:PxL w pa x.ps
 s:Lz w sa x.ss
 s1:x.ss.length<=sc
 s2:sc<=9223372036854775807
theorem NoV.cef {w W:World}{x:NoT}{pa sa:Option Addr}{sc:Nat}(h:CeF w W)(k:NoV w x pa sa sc):NoV W x pa sa sc:=⟨k.p.cef h,lz_cef h k.s,k.s1,k.s2⟩
def EvX (w:World)(e:List Value)(x:NoT):Prop:=∃ pa pc ca cn cc sa sc ka kn kc,e=[.int .i64 x.no,.int .i64 (x.lv:Int),.slice pa x.ps.length pc,.slice ca cn cc,.slice sa x.ss.length sc,.slice ka kn kc,.int .i64 (nsz x:Nat)]/\NoV w x pa sa sc
theorem EvX.cef {w W:World}{e:List Value}{x:NoT}(h:CeF w W)(k:EvX w e x):EvX W e x:=by
 obtain ⟨pa,pc,ca,cn,cc,sa,sc,ka,kn,kc,h1,h2⟩:=k;exact ⟨pa,pc,ca,cn,cc,sa,sc,ka,kn,kc,h1,h2.cef h⟩
structure EvL (w:World)(es:List (List Value))(L:List NoT):Prop where
 len:es.length=L.length
 get:∀ (i:Nat) (e:List Value) (p:NoT),es[i]?=some e->L[i]?=some p->EvX w e p
theorem EvL.nil (w:World):EvL w [] []:=⟨rfl,fun i e p h _=>by simp at h⟩
theorem EvL.cef {w W:World}{es:List (List Value)}{L:List NoT}(h:CeF w W)(k:EvL w es L):EvL W es L:=⟨k.len,fun i e p h1 h2=>(k.get i e p h1 h2).cef h⟩
theorem EvL.app {w:World}{es:List (List Value)}{L:List NoT}{e:List Value}{p:NoT}(h:EvL w es L)(k:EvX w e p):EvL w (es++[e]) (L++[p]):=by
 have hl:=h.len;refine ⟨by rw [List.length_append,List.length_append,hl];rfl,fun i e' p' h1 h2=>?_⟩
 by_cases hi:i<es.length
 ·rw [List.getElem?_append_left hi] at h1
  rw [List.getElem?_append_left (by omega)] at h2;exact h.get i e' p' h1 h2
 ·have h3:=(List.getElem?_eq_some_iff.1 h1).1
  rw [List.length_append,List.length_singleton] at h3;obtain rfl:i=es.length:=by omega
  rw [List.getElem?_append_right (Nat.le_refl _),Nat.sub_self] at h1;rw [hl,List.getElem?_append_right (Nat.le_refl _),Nat.sub_self] at h2;obtain rfl:e=e':=Option.some.inj h1;obtain rfl:p=p':=Option.some.inj h2;exact k
theorem EvL.sz {w:World}{es:List (List Value)}{L:List NoT}(h:EvL w es L):∀ e∈es,e.length=7:=fun e he=>by
 obtain ⟨i,hi,rfl⟩:=List.mem_iff_getElem.1 he;have hl:=h.len;obtain ⟨_,_,_,_,_,_,_,_,_,_,e1,_⟩:=h.get i _ _ (List.getElem?_eq_getElem hi) (List.getElem?_eq_getElem (by omega));rw [e1];rfl
theorem EvL.cells {w:World}{es:List (List Value)}{L:List NoT}(h:EvL w es L):∀ e∈es,∀ v∈e,v.oneCell'=true:=fun e he v hv=>by
 obtain ⟨i,hi,rfl⟩:=List.mem_iff_getElem.1 he;have hl:=h.len;obtain ⟨_,_,_,_,_,_,_,_,_,_,e1,_⟩:=h.get i _ _ (List.getElem?_eq_getElem hi) (List.getElem?_eq_getElem (by omega));rw [e1] at hv;simp only [List.mem_cons,List.not_mem_nil,or_false] at hv;rcases hv with rfl | rfl | rfl | rfl | rfl | rfl | rfl <;> rfl
def SnL (w:World)(a:Option Addr)(n c:Nat)(L:List NoT):Prop:=L.length=n/\∃ es,EsT w 80 a n c 7 es/\EvL w es L
theorem SnL.cef {w W:World}(h:CeF w W){a:Option Addr}{n c:Nat}{L:List NoT}(k:SnL w a n c L):SnL W a n c L:=by
 obtain ⟨h0,es,h1,h2⟩:=k;exact ⟨h0,es,h1.kept (by decide) h.frt,h2.cef h⟩
theorem SnL.of {w:World}{base n:Nat}{v:Value}{es:List (List Value)}{L:List NoT}(h:w.ownsRow base 80 7 v n es.flatten)(k:EvL w es L)(hn:L.length=n):∃ a c,v=.slice a n c/\SnL w a n c L:=by
 obtain ⟨a,c,rfl,he⟩:=EsT.of_owns h (by decide) k.sz k.cells;exact ⟨a,c,rfl,hn,es,he,k⟩
theorem SnL.get {w:World}{a:Option Addr}{n c:Nat}{L:List NoT}(h:SnL w a n c L){i:Nat}{x:NoT}(hx:L[i]?=some x) :
  ∃ b off pa pc ca cn cc sa sc ka kn kc,a=some ⟨b,off,none⟩/\w.cell? ⟨b,off+i*7,none⟩=some (.int .i64 x.no)/\w.cell? ⟨b,off+i*7+1,none⟩=some (.int .i64 (x.lv:Int))/\w.cell? ⟨b,off+i*7+2,none⟩=some (.slice pa x.ps.length pc) /\
   w.cell? ⟨b,off+i*7+3,none⟩=some (.slice ca cn cc)/\w.cell? ⟨b,off+i*7+4,none⟩=some (.slice sa x.ss.length sc)/\w.cell? ⟨b,off+i*7+5,none⟩=some (.slice ka kn kc)/\w.cell? ⟨b,off+i*7+6,none⟩=some (.int .i64 (nsz x:Nat))/\NoV w x pa sa sc:=by
 obtain ⟨h0,es,h1,h2⟩:=h;have hl:=h2.len;have hi:=(List.getElem?_eq_some_iff.1 hx).1;have he:es[i]?=some (es[i]'(by omega)):=List.getElem?_eq_getElem (by omega);obtain ⟨pa,pc,ca,cn,cc,sa,sc,ka,kn,kc,e1,e2⟩:=h2.get i _ x he hx;obtain ⟨b,off,e4,_,e5⟩:=h1.cell i _ he;rw [e1] at e5;exact ⟨b,off,pa,pc,ca,cn,cc,sa,sc,ka,kn,kc,e4,e5 0 _ rfl,e5 1 _ rfl,e5 2 _ rfl,e5 3 _ rfl,e5 4 _ rfl,e5 5 _ rfl,e5 6 _ rfl,e2⟩
structure SnO (w0 w:World)(B:Nat)(v:Value)(L:List NoT):Prop where
 ex:∃ es,w.ownsRow B 80 7 v L.length es.flatten/\EvL w0 es L
theorem SnO.nil (w0 w:World)(B:Nat):SnO w0 w B (.slice none 0 0) []:=⟨[],⟨rfl,.inl ⟨rfl,rfl⟩⟩,EvL.nil _⟩
theorem SnO.kept {w0 w w':World}{B:Nat}{v:Value}{L:List NoT}(h:SnO w0 w B v L)(hg:w.grownBy w' none):SnO w0 w' B v L:=by
 obtain ⟨es,h1,h2⟩:=h.ex;exact ⟨es,h1.kept hg (by cases v.ownBlock <;> simp),h2⟩
theorem SnO.shape {w0 w:World}{B:Nat}{v:Value}{L:List NoT}(h:SnO w0 w B v L):∃ a c,v=.slice a L.length c:=by
 obtain ⟨es,h1,_⟩:=h.ex;exact own_shape10 h1
theorem SnO.fin {w0 w:World}{B:Nat}{v:Value}{L:List NoT}(h:SnO w0 w B v L)(hg:CeF w0 w):∃ a c,v=.slice a L.length c/\SnL w a L.length c L:=by
 obtain ⟨es,h1,h2⟩:=h.ex;exact SnL.of h1 (h2.cef hg) rfl
theorem SnO.low {w0 w:World}{B:Nat}{v:Value}{L:List NoT}(h:SnO w0 w B v L):∀ g,v.ownBlock=some g->B<=g:=fun g e=>by
 obtain ⟨es,h1,_⟩:=h.ex;exact (own_lt10 h1 e).1
theorem SnO.beside {w0 w:World}{B:Nat}{v:Value}{L:List NoT}(h:SnO w0 w B v L){g:Nat}{cs:Array Value}{t:TypeId}(hg:w.heap[g]?=some (.cells cs t (0,0)))(ht:t≠80):some g≠v.ownBlock:=fun e=>by
 obtain ⟨es,h1,_⟩:=h.ex;obtain ⟨_,_,cur,z,q⟩:=own_lt10 h1 e.symm;rw [hg] at q;injection q with q
 injection q with _ q2 _
 exact ht q2
theorem evx_seven {w:World}{y:List Value}{p:NoT}(h:EvX w y p):y.length=7/\∀ v∈y,v.oneCell'=true:=by
 have k:EvL w [y] [p]:=(EvL.nil w).app h;exact ⟨k.sz y (by simp),k.cells y (by simp)⟩
theorem wpList_append_sn {w:World}{ops:Array Oper}{rest:List Oper}{o:Oper}{a:Act}{Q:Exit->Act->World->Prop}(hgd:o.guard=none)(s x:Operand)
  (ho:o.op=.call { callee:=.builtin .append,args:=#[s,x],argTypes:=#[71,71] })
  (w0:World) (q:Nat) (v:Value) (L:List NoT) (hs:a.eval s=v) (hp:SnO w0 w q v L) (p:NoT) (y:List Value) (hy:EvX w0 y p)
  (g:Nat) (hg:w.heap[g]?=some (.cells y.toArray 80 (0,0))) (hx:a.eval x=.slice (some ⟨g,0,none⟩) 1 1) (hn:L.length<=1000000) (hq:q<=w.heap.size)
  (h:∀ v' w',SnO w0 w' q v' (L++[p])->w.grownBy w' v.ownBlock->wpList Tryz.prog ops Q rest (a.put o.dst v') w'):wpList Tryz.prog ops Q (o::rest) a w:=by
 obtain ⟨i0,hi,hz0,hz1,hz2⟩:=info_parts info_snode;obtain ⟨es,h1,h2⟩:=hp.ex;obtain ⟨y1,y2⟩:=evx_seven hy;refine wpList_append_own w hgd s x 71 ho q 80 i0 (.agg #[.int .i64 0,.int .i64 0,.slice none 0 0,.slice none 0 0,.slice none 0 0,.slice none 0 0,.int .i64 0]) 7 120 Tryz.underlying71 hi hz0 hz1 hz2 rfl (by decide) v _ _ hs h1 ⟨g,0,none⟩ 1 1 y hx (by omega) (fun j u hu=>?_) y2 (by unfold maxLen;omega) (by omega) hq ?_
 ·rw [Addr.add_lit,cell_of_row _ g _ _ _ (0,0) hg]
  simpa using hu
 ·intro v' w' k1 k2 _
  refine h v' w' ⟨es++[y],?_,h2.app hy⟩ k2;rw [List.length_append,List.length_singleton,List.flatten_append];simpa using k1
theorem step_append_sn {ops:Array Oper}{o:Oper}{a:Act}{w:World}{K:Act->World->Prop}{Q:Exit->Act->World->Prop}{E:Prop}(hgd:o.guard=none)(s x:Operand)
  (ho:o.op=.call { callee:=.builtin .append,args:=#[s,x],argTypes:=#[71,71] })
  (w0:World) (q:Nat) (v:Value) (L:List NoT) (hs:a.eval s=v) (hp:SnO w0 w q v L) (p:NoT) (y:List Value) (hy:EvX w0 y p)
  (g:Nat) (hg:w.heap[g]?=some (.cells y.toArray 80 (0,0))) (hx:a.eval x=.slice (some ⟨g,0,none⟩) 1 1) (hn:L.length<=1000000) (hq:q<=w.heap.size)
  (h:∀ v' w',SnO w0 w' q v' (L++[p])->w.grownBy w' v.ownBlock->K (a.put o.dst v') w') :
  if Region.wanted o (yielded ops a.tmps)=true then Oper.wp Tryz.prog o a w K Q else E:=by
 obtain ⟨i0,hi,hz0,hz1,hz2⟩:=info_parts info_snode;obtain ⟨es,h1,h2⟩:=hp.ex;obtain ⟨y1,y2⟩:=evx_seven hy;refine step_append_at10 hgd s x 71 ho q 80 i0 (.agg #[.int .i64 0,.int .i64 0,.slice none 0 0,.slice none 0 0,.slice none 0 0,.slice none 0 0,.int .i64 0]) 7 120 Tryz.underlying71 hi hz0 hz1 hz2 rfl (by decide) v _ _ hs h1 ⟨g,0,none⟩ 1 1 y hx (by omega) (fun j u hu=>?_) y2 (by unfold maxLen;omega) (by omega) hq ?_
 ·rw [Addr.add_lit,cell_of_row _ g _ _ _ (0,0) hg]
  simpa using hu
 ·intro v' w' k1 k2 _
  refine h v' w' ⟨es++[y],?_,h2.app hy⟩ k2;rw [List.length_append,List.length_singleton,List.flatten_append];simpa using k1
theorem nodesOf_any (t:Option TrT)(p:Nat)(w:World)(ht:TreeT w p t)(ox:OkO t)(hc:ChkO t)(hz:∀ x∈tellO t,SzN x)(hs:(tellO t).length<=100000)(hh:highO t<=1000000) :
  Calls Tryz.prog 30 #[.pointer (some ⟨p,0,none⟩)] w fun en w'=>(∃ a c,en=.returned (.slice a (tellO t).length c)/\SnL w' a (tellO t).length c (tellO t))/\w.grownBy w' none:=by
 have HN:=hZq (nodes_any t p w ht ox hc (by omega) hh);have HZ:=hZq hz;clear ht ox hc hh hz;generalize tellO t=xs at *;obtain ⟨n,hn⟩:∃ n,xs.length=n:=⟨_,rfl⟩;have HL:=hZq hn;rw [hn] at HN hs ⊢;clear hn;go_enter Tryz.func30,Tryz.ntmps30
 go_wp2_with fail
 refine HN.out.mono ?_;rintro en w1 ⟨v,es,rfl,ho,htm,hg⟩;obtain ⟨a1,c1,rfl⟩:=own_shape10 ho;have NV:=hZq (nv_of ho htm);have G1:=hZq hg;obtain ⟨q,hq⟩:∃ q,w1.heap.size=q:=⟨_,rfl⟩;have HQ:=hZq hq;clear ho htm hg hq HN
 go_wp2_with fail
 go_loopw [3,9] (fun sl si wr=>∃ (k:Nat),k<=n/\si=.int .i64 (k:Nat)/\SnO w1 wr q sl (xs.take k)/\w1.grownBy wr none) (fun _ si _=>n - (intOf si).toNat)
 case atStart=>exact ⟨0,Nat.zero_le _,rfl,SnO.nil _ _ _,World.grownBy.refl _ _⟩
 case round =>
  obtain ⟨k,hk,rfl,hsn,hg⟩:=hrel;have HO:=hZq hsn;have HG:=hZq hg;obtain ⟨al,cl,rfl⟩:=hsn.shape;have htl:(xs.take k).length=k:=by rw [List.length_take,HL.out];omega
  rw [htl] at HO ⊢;have HTL:=hZq htl;clear hsn hg htl
  by_cases hlt:k<n
  ·obtain ⟨x,hx⟩:∃ x,xs[k]?=some x:=⟨_,List.getElem?_eq_getElem (by have:=HL.out;omega)⟩
   obtain ⟨b,off,pa,pc,ca,cn,cc,sa,sc,ka,kn,kc,rfl,e⟩:=NV.out k x hx;have f:=e.cef (CeF.of HG.out);have x0:=f.c0;have x1:=f.c1;have x2:=f.c2;have x3:=f.c3;have x4:=f.c4;have x5:=f.c5;have HEV:Hid (EvX w1 [.int .i64 x.no,.int .i64 (x.lv:Int),.slice pa x.ps.length pc,.slice ca cn cc,.slice sa x.ss.length sc,.slice ka kn kc,.int .i64 (nsz x:Nat)] x):=⟨pa,pc,ca,cn,cc,sa,sc,ka,kn,kc,rfl,⟨e.p,e.s,e.s1,e.s2⟩⟩;have HSZ:=hZq (fun (W:World) (hW:wr.grownBy W none)=>sizeOf_any x x.no pa pc ca cn cc sa sc ka kn kc W (f.p.cef (CeF.of hW)) (lz_cef (CeF.of hW) f.s) f.s1 f.s2 (HZ.out x (List.mem_of_getElem? hx)));have HT:Hid (xs.take (k+1)=xs.take k++[x]):=by show _=_;rw [List.take_add_one,hx];rfl
   clear e f hx;generalize x.ps.length=pn at *;generalize x.ss.length=sn at *;generalize (x.lv:Int)=lv at *;generalize x.no=no at *;generalize nsz x=sz at *;have g1:(0:Int)<=(k:Int):=by omega
   have g2:(k:Int)<(n:Int):=by omega
   have ga:=World.grownBy_alloc wr (.cells #[.int .i64 no,.int .i64 lv,.slice pa pn pc,.slice ca cn cc,.slice sa sn sc,.slice ka kn kc] 61) none;have X2:=hZq (heap_at0 wr #[.int .i64 no,.int .i64 lv,.slice pa pn pc,.slice ca cn cc,.slice sa sn sc,.slice ka kn kc] 61);have GA:=hZq ga;clear ga;go_upto_region 5 with fail
   generalize wr.alloc (.cells #[.int .i64 no,.int .i64 lv,.slice pa pn pc,.slice ca cn cc,.slice sa sn sc,.slice ka kn kc] 61)=w2 at *;obtain ⟨B,hB⟩:∃ B,wr.heap.size=B:=⟨_,rfl⟩;rw [hB] at X2 ⊢;clear hB x0 x1 x2 x3 x4 x5;have HO2:=hZq (HO.out.kept GA.out);have HGA:=hZq (gZq HG.out GA.out);have d0:=cell_heap (i:=0) X2.out rfl;have d1:=cell_heap (i:=1) X2.out rfl;have d2:=cell_heap (i:=2) X2.out rfl;have d3:=cell_heap (i:=3) X2.out rfl;have d4:=cell_heap (i:=4) X2.out rfl;have d5:=cell_heap (i:=5) X2.out rfl
   go_region_held3 (fun w'=>w'.cell? ⟨B,0,none⟩=some (.int .i64 no)/\w'.cell? ⟨B,1,none⟩=some (.int .i64 lv)/\w'.cell? ⟨B,2,none⟩=some (.slice pa pn pc)/\w'.cell? ⟨B,3,none⟩=some (.slice ca cn cc)/\w'.cell? ⟨B,4,none⟩=some (.slice sa sn sc)/\w'.cell? ⟨B,5,none⟩=some (.slice ka kn kc)) (first | exact ⟨d0,d1,d2,d3,d4,d5⟩ | exact T3.out | exact T4.out | go_keep)
    (first
     | (go_at_call 59;refine (HSZ.out w2.drew (gZq GA.out ((Qt.refl w2).drew.grown none))).mono ?_;rintro en w3 ⟨rfl,hg3⟩;have G3:=hZq (undrewW hg3);have T3:=hZq (And.intro (G3.out.cell d0 (by simp)) (And.intro (G3.out.cell d1 (by simp)) (And.intro (G3.out.cell d2 (by simp)) (And.intro (G3.out.cell d3 (by simp)) (And.intro (G3.out.cell d4 (by simp)) (G3.out.cell d5 (by simp)))))));clear hg3)
     | (refine step_append_sn rfl (.tmp 13) (.tmp 18) (by rfl) w1 q (.slice al k cl) (xs.take k) (by rfl) (by exact (HO2.out.kept G3.out).kept (World.grownBy_alloc w3 _ none)) x _ HEV.out w3.heap.size (by exact heap_at0 w3 _ _) (by rfl) (by have:=HTL.out;omega) (by have h1:=(gZq (gZq HGA.out G3.out) (World.grownBy_alloc w3 (.cells #[.int .i64 no,.int .i64 lv,.slice pa pn pc,.slice ca cn cc,.slice sa sn sc,.slice ka kn kc,.int .i64 (sz:Nat)] 80) none)).size;rw [HQ.out] at h1;exact h1) ?_;intro v4 w4 ho4 hg4;have O4:=hZq ho4;have X4:Hid (w4.heap[B]?=some (.cells #[.int .i64 no,.int .i64 lv,.slice pa pn pc,.slice ca cn cc,.slice sa sn sc,.slice ka kn kc] 61 (0,0))):=(hg4.block B (Nat.lt_of_lt_of_le (Array.getElem?_eq_some_iff.1 X2.out).1 (gZq G3.out (World.grownBy_alloc w3 (.cells #[.int .i64 no,.int .i64 lv,.slice pa pn pc,.slice ca cn cc,.slice sa sn sc,.slice ka kn kc,.int .i64 (sz:Nat)] 80) none)).size) (HO2.out.beside X2.out (by decide))).trans (heap_kept X2.out (gZq G3.out (World.grownBy_alloc w3 (.cells #[.int .i64 no,.int .i64 lv,.slice pa pn pc,.slice ca cn cc,.slice sa sn sc,.slice ka kn kc,.int .i64 (sz:Nat)] 80) none)));have T4:=hZq (And.intro (cell_heap (i:=0) X4.out rfl) (And.intro (cell_heap (i:=1) X4.out rfl) (And.intro (cell_heap (i:=2) X4.out rfl) (And.intro (cell_heap (i:=3) X4.out rfl) (And.intro (cell_heap (i:=4) X4.out rfl) (cell_heap (i:=5) X4.out rfl))))));have G4:Hid (w1.grownBy w4 none):=grown_ownN (gZq (gZq HGA.out G3.out) (World.grownBy_alloc w3 (.cells #[.int .i64 no,.int .i64 lv,.slice pa pn pc,.slice ca cn cc,.slice sa sn sc,.slice ka kn kc,.int .i64 (sz:Nat)] 80) none)) hg4 (fun g e=>by rw [HQ.out];exact HO2.out.low g e);obtain ⟨a4,c4,hv4⟩:=ho4.shape;rw [List.length_append,List.length_singleton,HTL.out] at hv4;subst hv4;clear ho4 hg4)
     | fail)
   all_goals
    go_wp2;go_roundw
    case rel=>exact ⟨k+1,by omega,by go_num,by rw [HT.out];exact O4.out,G4.out⟩
    case measure=>simp [intOf];omega
  ·obtain rfl:k=n:=by omega
   have e:xs.take k=xs:=by rw [<- HL.out,List.take_length]
   rw [e] at HO;have HF:=HO.out.fin (CeF.of HG.out);rw [HL.out] at HF;obtain ⟨a',c',e1,e2⟩:=HF;injection e1 with q1 _ q3
   subst q1 q3;have E2:=hZq e2;clear e2;go_wp2;go_ret;exact ⟨⟨_,_,rfl,E2.out⟩,gZq G1.out HG.out⟩
theorem sumT_step {T:Type}(g:T->Nat){L:List T}{i:Nat}{x:T}(h:L[i]?=some x):sumT g (L.take (i+1))=sumT g (L.take i)+g x:=by
 rw [List.take_add_one,h,sumT_app]
 show _+(g x+0)=_
 omega
theorem sumT_part {T:Type}(g:T->Nat)(L:List T)(i:Nat):sumT g (L.take i)<=sumT g L:=by
 conv=>rhs;rw [<- List.take_append_drop i L]
 rw [sumT_app];omega
theorem sumT_bound22 {T:Type}{f:T->Nat}{c:Nat}:∀ (L:List T),(∀ p∈L,f p<=c)->sumT f L<=L.length*c
 | [],_=>Nat.zero_le _
 | x::L,h=>by
  have h1:=h x List.mem_cons_self;have h2:=sumT_bound22 L (fun p hp=>h p (List.mem_cons_of_mem _ hp));rw [sumT,List.length_cons,Nat.add_mul];omega
theorem pgB_ch {n:Nat}(h:n<=262144):pgB (n:Int)=((chN n:Nat):Int):=by
 unfold pgB chN
 by_cases h1:n<=512
 ·rw [if_pos (by omega),if_pos h1];rfl
 ·rw [if_neg (by omega),if_neg h1];omega
theorem ch_le {n:Nat}(h:n<=262144):chN n<=262144:=by
 unfold chN
 split <;> omega
theorem ite_le22 (n:Nat):(if 512<n then n else 0)<=n:=by split <;> omega
theorem keys_any (x:NoT)(pa:Option Addr)(pc:Nat)(ca:Option Addr)(cn cc:Nat)(sa:Option Addr)(sc:Nat)(ka:Option Addr)(kn kc:Nat)(w:World)(hv:NoV w x pa sa sc)(hz:SzN x) :
  Calls Tryz.prog 32 #[.agg #[.int .i64 x.no,.int .i64 (x.lv:Int),.slice pa x.ps.length pc,.slice ca cn cc,.slice sa x.ss.length sc,.slice ka kn kc,.int .i64 (nsz x:Nat)]] w fun en w'=>en=.returned (.int .i64 (x.ps.length:Nat))/\w.grownBy w' none:=by
 have HP:=hZq hv.p;have HZ:=hZq hz;have ga:=World.grownBy_alloc w (.cells #[.int .i64 x.no,.int .i64 (x.lv:Int),.slice pa x.ps.length pc,.slice ca cn cc,.slice sa x.ss.length sc,.slice ka kn kc,.int .i64 (nsz x:Nat)] 80) none;have X1:=hZq (heap_at0 w #[.int .i64 x.no,.int .i64 (x.lv:Int),.slice pa x.ps.length pc,.slice ca cn cc,.slice sa x.ss.length sc,.slice ka kn kc,.int .i64 (nsz x:Nat)] 80);have GA:=hZq ga;clear ga hv hz;obtain ⟨pn,hpn⟩:∃ pn,x.ps.length=pn:=⟨_,rfl⟩;have HPN:=hZq hpn;have HPM:Hid (pn<=2046):=by rw [<- hpn];exact HZ.out.pn
 rw [hpn] at X1 GA ⊢;clear hpn;generalize x.ss.length=sn at *;generalize (x.lv:Int)=lv at *;generalize x.no=no at *;have SZ:Hid (nsz x<=4092):=HZ.out.hi;generalize nsz x=sz at *;go_enter Tryz.func32,Tryz.ntmps32;go_upto_region 1 with fail
 generalize w.alloc (.cells #[.int .i64 no,.int .i64 lv,.slice pa pn pc,.slice ca cn cc,.slice sa sn sc,.slice ka kn kc,.int .i64 (sz:Nat)] 80)=w1 at *;generalize w.heap.size=D at *;have c2:=cell_heap (i:=2) X1.out rfl;have c6:=cell_heap (i:=6) X1.out rfl;go_wp2;go_ret;exact ⟨rfl,GA.out⟩
theorem one_any (x:NoT)(pa:Option Addr)(pc:Nat)(ca:Option Addr)(cn cc:Nat)(sa:Option Addr)(sc:Nat)(ka:Option Addr)(kn kc:Nat)(w:World)(hv:NoV w x pa sa sc)(hz:SzN x) :
  Calls Tryz.prog 67 #[.agg #[.int .i64 x.no,.int .i64 (x.lv:Int),.slice pa x.ps.length pc,.slice ca cn cc,.slice sa x.ss.length sc,.slice ka kn kc,.int .i64 (nsz x:Nat)]] w fun en w'=>en=.returned (.int .i64 (1:Nat))/\w.grownBy w' none:=by
 have HP:=hZq hv.p;have HZ:=hZq hz;have ga:=World.grownBy_alloc w (.cells #[.int .i64 x.no,.int .i64 (x.lv:Int),.slice pa x.ps.length pc,.slice ca cn cc,.slice sa x.ss.length sc,.slice ka kn kc,.int .i64 (nsz x:Nat)] 80) none;have X1:=hZq (heap_at0 w #[.int .i64 x.no,.int .i64 (x.lv:Int),.slice pa x.ps.length pc,.slice ca cn cc,.slice sa x.ss.length sc,.slice ka kn kc,.int .i64 (nsz x:Nat)] 80);have GA:=hZq ga;clear ga hv hz;obtain ⟨pn,hpn⟩:∃ pn,x.ps.length=pn:=⟨_,rfl⟩;have HPN:=hZq hpn;have HPM:Hid (pn<=2046):=by rw [<- hpn];exact HZ.out.pn
 rw [hpn] at X1 GA ⊢;clear hpn;generalize x.ss.length=sn at *;generalize (x.lv:Int)=lv at *;generalize x.no=no at *;have SZ:Hid (nsz x<=4092):=HZ.out.hi;generalize nsz x=sz at *;go_enter Tryz.func67,Tryz.ntmps67;go_upto_region 1 with fail
 generalize w.alloc (.cells #[.int .i64 no,.int .i64 lv,.slice pa pn pc,.slice ca cn cc,.slice sa sn sc,.slice ka kn kc,.int .i64 (sz:Nat)] 80)=w1 at *;generalize w.heap.size=D at *;have c2:=cell_heap (i:=2) X1.out rfl;have c6:=cell_heap (i:=6) X1.out rfl;go_wp2;go_ret;exact ⟨rfl,GA.out⟩
theorem bytes_any22 (x:NoT)(pa:Option Addr)(pc:Nat)(ca:Option Addr)(cn cc:Nat)(sa:Option Addr)(sc:Nat)(ka:Option Addr)(kn kc:Nat)(w:World)(hv:NoV w x pa sa sc)(hz:SzN x) :
  Calls Tryz.prog 68 #[.agg #[.int .i64 x.no,.int .i64 (x.lv:Int),.slice pa x.ps.length pc,.slice ca cn cc,.slice sa x.ss.length sc,.slice ka kn kc,.int .i64 (nsz x:Nat)]] w fun en w'=>en=.returned (.int .i64 (nsz x:Nat))/\w.grownBy w' none:=by
 have HP:=hZq hv.p;have HZ:=hZq hz;have ga:=World.grownBy_alloc w (.cells #[.int .i64 x.no,.int .i64 (x.lv:Int),.slice pa x.ps.length pc,.slice ca cn cc,.slice sa x.ss.length sc,.slice ka kn kc,.int .i64 (nsz x:Nat)] 80) none;have X1:=hZq (heap_at0 w #[.int .i64 x.no,.int .i64 (x.lv:Int),.slice pa x.ps.length pc,.slice ca cn cc,.slice sa x.ss.length sc,.slice ka kn kc,.int .i64 (nsz x:Nat)] 80);have GA:=hZq ga;clear ga hv hz;obtain ⟨pn,hpn⟩:∃ pn,x.ps.length=pn:=⟨_,rfl⟩;have HPN:=hZq hpn;have HPM:Hid (pn<=2046):=by rw [<- hpn];exact HZ.out.pn
 rw [hpn] at X1 GA ⊢;clear hpn;generalize x.ss.length=sn at *;generalize (x.lv:Int)=lv at *;generalize x.no=no at *;have SZ:Hid (nsz x<=4092):=HZ.out.hi;generalize nsz x=sz at *;go_enter Tryz.func68,Tryz.ntmps68;go_upto_region 1 with fail
 generalize w.alloc (.cells #[.int .i64 no,.int .i64 lv,.slice pa pn pc,.slice ca cn cc,.slice sa sn sc,.slice ka kn kc,.int .i64 (sz:Nat)] 80)=w1 at *;generalize w.heap.size=D at *;have c2:=cell_heap (i:=2) X1.out rfl;have c6:=cell_heap (i:=6) X1.out rfl;go_wp2;go_ret;exact ⟨rfl,GA.out⟩
theorem keyBytes_any (x:NoT)(pa:Option Addr)(pc:Nat)(ca:Option Addr)(cn cc:Nat)(sa:Option Addr)(sc:Nat)(ka:Option Addr)(kn kc:Nat)(w:World)(hv:NoV w x pa sa sc)(hz:SzN x) :
  Calls Tryz.prog 33 #[.agg #[.int .i64 x.no,.int .i64 (x.lv:Int),.slice pa x.ps.length pc,.slice ca cn cc,.slice sa x.ss.length sc,.slice ka kn kc,.int .i64 (nsz x:Nat)]] w fun en w'=>en=.returned (.int .i64 (kbN x:Nat))/\w.grownBy w' none:=by
 have HP:=hZq hv.p;have HZ:=hZq hz;have ga:=World.grownBy_alloc w (.cells #[.int .i64 x.no,.int .i64 (x.lv:Int),.slice pa x.ps.length pc,.slice ca cn cc,.slice sa x.ss.length sc,.slice ka kn kc,.int .i64 (nsz x:Nat)] 80) none;have X1:=hZq (heap_at0 w #[.int .i64 x.no,.int .i64 (x.lv:Int),.slice pa x.ps.length pc,.slice ca cn cc,.slice sa x.ss.length sc,.slice ka kn kc,.int .i64 (nsz x:Nat)] 80);have GA:=hZq ga;clear ga hv hz;obtain ⟨L,hL⟩:∃ L,x.ps=L:=⟨_,rfl⟩;have HL:=hZq hL;obtain ⟨pn,hpn⟩:∃ pn,x.ps.length=pn:=⟨_,rfl⟩;have HPN:=hZq hpn;have HPM:Hid (pn<=2046):=by rw [<- hpn];exact HZ.out.pn
 rw [hpn] at X1 GA ⊢;clear hpn hL;generalize x.ss.length=sn at *;generalize (x.lv:Int)=lv at *;generalize x.no=no at *;have SZ:Hid (nsz x<=4092):=HZ.out.hi;have HV:Hid (kbN x=0+sumT (fun p:PrT=>p.key.length) x.ps):=by first | rfl | exact (Nat.zero_add _).symm
 generalize nsz x=sz at *
 have HS:Hid (∀ k,sumT (fun p:PrT=>p.key.length) (x.ps.take k)<=600000000):=fun k=>by
  have h1:=sumT_part (fun p:PrT=>p.key.length) x.ps k;have h2:=sumT_bound22 (f:=fun p:PrT=>p.key.length) (c:=262144) x.ps (fun p hp=>Nat.le_trans (HZ.out.pv p hp).1 (by decide));have h3:=HZ.out.pn;omega
 go_enter Tryz.func33,Tryz.ntmps33;go_upto_region 1 with fail
 generalize w.alloc (.cells #[.int .i64 no,.int .i64 lv,.slice pa pn pc,.slice ca cn cc,.slice sa sn sc,.slice ka kn kc,.int .i64 (sz:Nat)] 80)=w1 at *;generalize w.heap.size=D at *;have c2:=cell_heap (i:=2) X1.out rfl;have c6:=cell_heap (i:=6) X1.out rfl
 go_wp2_with fail
 go_loopw [3,10] (fun s3 s10 wr=>∃ k:Nat,k<=pn/\s10=.int .i64 (k:Nat)/\s3=.int .i64 ((0+sumT (fun p:PrT=>p.key.length) (x.ps.take k):Nat):Int)/\w.grownBy wr none) (fun _ s10 _=>pn - (intOf s10).toNat)
 case atStart=>exact ⟨0,Nat.zero_le _,rfl,rfl,GA.out⟩
 case round =>
  obtain ⟨k,hk,rfl,rfl,hg⟩:=hrel;have HG:=hZq hg;clear hg
  by_cases hlt:k<pn
  ·obtain ⟨p,hx⟩:∃ p,x.ps[k]?=some p:=⟨_,List.getElem?_eq_getElem (by have:=HPN.out;omega)⟩
   obtain ⟨b,off,ka',kc',va',vc',rfl,e0,e1,_⟩:=HP.out k p hx;have d0:=HG.out.cell e0 (by simp);have d1:=HG.out.cell e1 (by simp);have HT:=hZq (sumT_step (fun p:PrT=>p.key.length) hx);have h1:=HS.out (k+1);rw [HT.out] at h1;have HPB:Hid (p.key.length<=255/\p.val.length<=262144):=⟨(HZ.out.pv p (List.mem_of_getElem? hx)).1,(HZ.out.pv p (List.mem_of_getElem? hx)).2.1⟩;obtain ⟨s,hs⟩:∃ s,sumT (fun p:PrT=>p.key.length) (x.ps.take k)=s:=⟨_,rfl⟩;rw [hs] at h1 HT ⊢;have hpb:=HPB.out;have hpm:=HPM.out;have hsz9:=SZ.out;clear e0 e1 hx hs;generalize hk9:p.key.length=kn' at *;generalize hv9:p.val.length=vn' at *;have i1:(k:Int)<(pn:Int):=by omega
   have i0:(0:Int)<=(k:Int):=by omega
   go_wp2;go_roundw
   case rel=>exact ⟨k+1,by omega,by go_num,by rw [HT.out];go_num,gZq HG.out (World.grownBy_alloc _ _ none)⟩
   case measure=>simp [intOf];omega
  ·obtain rfl:k=pn:=by omega
   have e:x.ps.take k=x.ps:=by rw [<- HPN.out,List.take_length]
   rw [e];have hv9:=HV.out;rw [<- hv9];go_wp2;go_ret;exact ⟨rfl,HG.out⟩
theorem valueBytes_any (x:NoT)(pa:Option Addr)(pc:Nat)(ca:Option Addr)(cn cc:Nat)(sa:Option Addr)(sc:Nat)(ka:Option Addr)(kn kc:Nat)(w:World)(hv:NoV w x pa sa sc)(hz:SzN x) :
  Calls Tryz.prog 34 #[.agg #[.int .i64 x.no,.int .i64 (x.lv:Int),.slice pa x.ps.length pc,.slice ca cn cc,.slice sa x.ss.length sc,.slice ka kn kc,.int .i64 (nsz x:Nat)]] w fun en w'=>en=.returned (.int .i64 (vbN x:Nat))/\w.grownBy w' none:=by
 have HP:=hZq hv.p;have HZ:=hZq hz;have ga:=World.grownBy_alloc w (.cells #[.int .i64 x.no,.int .i64 (x.lv:Int),.slice pa x.ps.length pc,.slice ca cn cc,.slice sa x.ss.length sc,.slice ka kn kc,.int .i64 (nsz x:Nat)] 80) none;have X1:=hZq (heap_at0 w #[.int .i64 x.no,.int .i64 (x.lv:Int),.slice pa x.ps.length pc,.slice ca cn cc,.slice sa x.ss.length sc,.slice ka kn kc,.int .i64 (nsz x:Nat)] 80);have GA:=hZq ga;clear ga hv hz;obtain ⟨L,hL⟩:∃ L,x.ps=L:=⟨_,rfl⟩;have HL:=hZq hL;obtain ⟨pn,hpn⟩:∃ pn,x.ps.length=pn:=⟨_,rfl⟩;have HPN:=hZq hpn;have HPM:Hid (pn<=2046):=by rw [<- hpn];exact HZ.out.pn
 rw [hpn] at X1 GA ⊢;clear hpn hL;generalize x.ss.length=sn at *;generalize (x.lv:Int)=lv at *;generalize x.no=no at *;have SZ:Hid (nsz x<=4092):=HZ.out.hi;have HV:Hid (vbN x=0+sumT (fun p:PrT=>p.val.length) x.ps):=by first | rfl | exact (Nat.zero_add _).symm
 generalize nsz x=sz at *
 have HS:Hid (∀ k,sumT (fun p:PrT=>p.val.length) (x.ps.take k)<=600000000):=fun k=>by
  have h1:=sumT_part (fun p:PrT=>p.val.length) x.ps k;have h2:=sumT_bound22 (f:=fun p:PrT=>p.val.length) (c:=262144) x.ps (fun p hp=>(HZ.out.pv p hp).2.1);have h3:=HZ.out.pn;omega
 go_enter Tryz.func34,Tryz.ntmps34;go_upto_region 1 with fail
 generalize w.alloc (.cells #[.int .i64 no,.int .i64 lv,.slice pa pn pc,.slice ca cn cc,.slice sa sn sc,.slice ka kn kc,.int .i64 (sz:Nat)] 80)=w1 at *;generalize w.heap.size=D at *;have c2:=cell_heap (i:=2) X1.out rfl;have c6:=cell_heap (i:=6) X1.out rfl
 go_wp2_with fail
 go_loopw [3,10] (fun s3 s10 wr=>∃ k:Nat,k<=pn/\s10=.int .i64 (k:Nat)/\s3=.int .i64 ((0+sumT (fun p:PrT=>p.val.length) (x.ps.take k):Nat):Int)/\w.grownBy wr none) (fun _ s10 _=>pn - (intOf s10).toNat)
 case atStart=>exact ⟨0,Nat.zero_le _,rfl,rfl,GA.out⟩
 case round =>
  obtain ⟨k,hk,rfl,rfl,hg⟩:=hrel;have HG:=hZq hg;clear hg
  by_cases hlt:k<pn
  ·obtain ⟨p,hx⟩:∃ p,x.ps[k]?=some p:=⟨_,List.getElem?_eq_getElem (by have:=HPN.out;omega)⟩
   obtain ⟨b,off,ka',kc',va',vc',rfl,e0,e1,_⟩:=HP.out k p hx;have d0:=HG.out.cell e0 (by simp);have d1:=HG.out.cell e1 (by simp);have HT:=hZq (sumT_step (fun p:PrT=>p.val.length) hx);have h1:=HS.out (k+1);rw [HT.out] at h1;have HPB:Hid (p.key.length<=255/\p.val.length<=262144):=⟨(HZ.out.pv p (List.mem_of_getElem? hx)).1,(HZ.out.pv p (List.mem_of_getElem? hx)).2.1⟩;obtain ⟨s,hs⟩:∃ s,sumT (fun p:PrT=>p.val.length) (x.ps.take k)=s:=⟨_,rfl⟩;rw [hs] at h1 HT ⊢;have hpb:=HPB.out;have hpm:=HPM.out;have hsz9:=SZ.out;clear e0 e1 hx hs;generalize hk9:p.key.length=kn' at *;generalize hv9:p.val.length=vn' at *;have i1:(k:Int)<(pn:Int):=by omega
   have i0:(0:Int)<=(k:Int):=by omega
   go_wp2;go_roundw
   case rel=>exact ⟨k+1,by omega,by go_num,by rw [HT.out];go_num,gZq HG.out (World.grownBy_alloc _ _ none)⟩
   case measure=>simp [intOf];omega
  ·obtain rfl:k=pn:=by omega
   have e:x.ps.take k=x.ps:=by rw [<- HPN.out,List.take_length]
   rw [e];have hv9:=HV.out;rw [<- hv9];go_wp2;go_ret;exact ⟨rfl,HG.out⟩
theorem pages_any22 (x:NoT)(pa:Option Addr)(pc:Nat)(ca:Option Addr)(cn cc:Nat)(sa:Option Addr)(sc:Nat)(ka:Option Addr)(kn kc:Nat)(w:World)(hv:NoV w x pa sa sc)(hz:SzN x) :
  Calls Tryz.prog 35 #[.agg #[.int .i64 x.no,.int .i64 (x.lv:Int),.slice pa x.ps.length pc,.slice ca cn cc,.slice sa x.ss.length sc,.slice ka kn kc,.int .i64 (nsz x:Nat)]] w fun en w'=>en=.returned (.int .i64 (pgN x:Nat))/\w.grownBy w' none:=by
 have HP:=hZq hv.p;have HZ:=hZq hz;have ga:=World.grownBy_alloc w (.cells #[.int .i64 x.no,.int .i64 (x.lv:Int),.slice pa x.ps.length pc,.slice ca cn cc,.slice sa x.ss.length sc,.slice ka kn kc,.int .i64 (nsz x:Nat)] 80) none;have X1:=hZq (heap_at0 w #[.int .i64 x.no,.int .i64 (x.lv:Int),.slice pa x.ps.length pc,.slice ca cn cc,.slice sa x.ss.length sc,.slice ka kn kc,.int .i64 (nsz x:Nat)] 80);have GA:=hZq ga;clear ga hv hz;obtain ⟨L,hL⟩:∃ L,x.ps=L:=⟨_,rfl⟩;have HL:=hZq hL;obtain ⟨pn,hpn⟩:∃ pn,x.ps.length=pn:=⟨_,rfl⟩;have HPN:=hZq hpn;have HPM:Hid (pn<=2046):=by rw [<- hpn];exact HZ.out.pn
 rw [hpn] at X1 GA ⊢;clear hpn hL;generalize x.ss.length=sn at *;generalize (x.lv:Int)=lv at *;generalize x.no=no at *;have SZ:Hid (nsz x<=4092):=HZ.out.hi;have HV:Hid (pgN x=1+sumT (fun p:PrT=>chN p.val.length) x.ps):=by first | rfl | exact (Nat.zero_add _).symm
 generalize nsz x=sz at *
 have HS:Hid (∀ k,sumT (fun p:PrT=>chN p.val.length) (x.ps.take k)<=600000000):=fun k=>by
  have h1:=sumT_part (fun p:PrT=>chN p.val.length) x.ps k;have h2:=sumT_bound22 (f:=fun p:PrT=>chN p.val.length) (c:=262144) x.ps (fun p hp=>ch_le (HZ.out.pv p hp).2.1);have h3:=HZ.out.pn;omega
 go_enter Tryz.func35,Tryz.ntmps35;go_upto_region 1 with fail
 generalize w.alloc (.cells #[.int .i64 no,.int .i64 lv,.slice pa pn pc,.slice ca cn cc,.slice sa sn sc,.slice ka kn kc,.int .i64 (sz:Nat)] 80)=w1 at *;generalize w.heap.size=D at *;have c2:=cell_heap (i:=2) X1.out rfl;have c6:=cell_heap (i:=6) X1.out rfl
 go_wp2_with fail
 go_loopw [3,10] (fun s3 s10 wr=>∃ k:Nat,k<=pn/\s10=.int .i64 (k:Nat)/\s3=.int .i64 ((1+sumT (fun p:PrT=>chN p.val.length) (x.ps.take k):Nat):Int)/\w.grownBy wr none) (fun _ s10 _=>pn - (intOf s10).toNat)
 case atStart=>exact ⟨0,Nat.zero_le _,rfl,rfl,GA.out⟩
 case round =>
  obtain ⟨k,hk,rfl,rfl,hg⟩:=hrel;have HG:=hZq hg;clear hg
  by_cases hlt:k<pn
  ·obtain ⟨p,hx⟩:∃ p,x.ps[k]?=some p:=⟨_,List.getElem?_eq_getElem (by have:=HPN.out;omega)⟩
   obtain ⟨b,off,ka',kc',va',vc',rfl,e0,e1,_⟩:=HP.out k p hx;have d0:=HG.out.cell e0 (by simp);have d1:=HG.out.cell e1 (by simp);have HT:=hZq (sumT_step (fun p:PrT=>chN p.val.length) hx);have h1:=HS.out (k+1);rw [HT.out] at h1;have HPB:Hid (p.key.length<=255/\p.val.length<=262144):=⟨(HZ.out.pv p (List.mem_of_getElem? hx)).1,(HZ.out.pv p (List.mem_of_getElem? hx)).2.1⟩;obtain ⟨s,hs⟩:∃ s,sumT (fun p:PrT=>chN p.val.length) (x.ps.take k)=s:=⟨_,rfl⟩;rw [hs] at h1 HT ⊢;have hpb:=HPB.out;have hpm:=HPM.out;have hsz9:=SZ.out;clear e0 e1 hx hs;generalize hk9:p.key.length=kn' at *;generalize hv9:p.val.length=vn' at *;have i1:(k:Int)<(pn:Int):=by omega
   have i0:(0:Int)<=(k:Int):=by omega
   have hch:pgB (vn':Int)=((chN vn':Nat):Int):=pgB_ch hpb.2
   go_wp2_with fail
   refine (pagesB_any _ _).mono ?_;rintro en w2 ⟨rfl,rfl⟩;rw [hch];have GQ:=hZq (gZq HG.out (World.grownBy_alloc wr (.cells #[.slice ka' kn' kc',.slice va' vn' vc'] 64) none));go_wp2;go_roundw
   case rel=>exact ⟨k+1,by omega,by go_num,by rw [HT.out];go_num,GQ.out⟩
   case measure=>simp [intOf];omega
  ·obtain rfl:k=pn:=by omega
   have e:x.ps.take k=x.ps:=by rw [<- HPN.out,List.take_length]
   rw [e];have hv9:=HV.out;rw [<- hv9];go_wp2;go_ret;exact ⟨rfl,HG.out⟩
theorem used_any22 (x:NoT)(pa:Option Addr)(pc:Nat)(ca:Option Addr)(cn cc:Nat)(sa:Option Addr)(sc:Nat)(ka:Option Addr)(kn kc:Nat)(w:World)(hv:NoV w x pa sa sc)(hz:SzN x) :
  Calls Tryz.prog 36 #[.agg #[.int .i64 x.no,.int .i64 (x.lv:Int),.slice pa x.ps.length pc,.slice ca cn cc,.slice sa x.ss.length sc,.slice ka kn kc,.int .i64 (nsz x:Nat)]] w fun en w'=>en=.returned (.int .i64 (usN x:Nat))/\w.grownBy w' none:=by
 have HP:=hZq hv.p;have HZ:=hZq hz;have ga:=World.grownBy_alloc w (.cells #[.int .i64 x.no,.int .i64 (x.lv:Int),.slice pa x.ps.length pc,.slice ca cn cc,.slice sa x.ss.length sc,.slice ka kn kc,.int .i64 (nsz x:Nat)] 80) none;have X1:=hZq (heap_at0 w #[.int .i64 x.no,.int .i64 (x.lv:Int),.slice pa x.ps.length pc,.slice ca cn cc,.slice sa x.ss.length sc,.slice ka kn kc,.int .i64 (nsz x:Nat)] 80);have GA:=hZq ga;clear ga hv hz;obtain ⟨L,hL⟩:∃ L,x.ps=L:=⟨_,rfl⟩;have HL:=hZq hL;obtain ⟨pn,hpn⟩:∃ pn,x.ps.length=pn:=⟨_,rfl⟩;have HPN:=hZq hpn;have HPM:Hid (pn<=2046):=by rw [<- hpn];exact HZ.out.pn
 rw [hpn] at X1 GA ⊢;clear hpn hL;generalize x.ss.length=sn at *;generalize (x.lv:Int)=lv at *;generalize x.no=no at *;have SZ:Hid (nsz x<=4092):=HZ.out.hi;have HV:Hid (usN x=nsz x+sumT (fun p:PrT=>if 512<p.val.length then p.val.length else 0) x.ps):=by first | rfl | exact (Nat.zero_add _).symm
 generalize nsz x=sz at *
 have HS:Hid (∀ k,sumT (fun p:PrT=>if 512<p.val.length then p.val.length else 0) (x.ps.take k)<=600000000):=fun k=>by
  have h1:=sumT_part (fun p:PrT=>if 512<p.val.length then p.val.length else 0) x.ps k;have h2:=sumT_bound22 (f:=fun p:PrT=>if 512<p.val.length then p.val.length else 0) (c:=262144) x.ps (fun p hp=>Nat.le_trans (ite_le22 _) (HZ.out.pv p hp).2.1);have h3:=HZ.out.pn;omega
 go_enter Tryz.func36,Tryz.ntmps36;go_upto_region 1 with fail
 generalize w.alloc (.cells #[.int .i64 no,.int .i64 lv,.slice pa pn pc,.slice ca cn cc,.slice sa sn sc,.slice ka kn kc,.int .i64 (sz:Nat)] 80)=w1 at *;generalize w.heap.size=D at *;have c2:=cell_heap (i:=2) X1.out rfl;have c6:=cell_heap (i:=6) X1.out rfl
 go_wp2_with fail
 go_loopw [3,12] (fun s3 s10 wr=>∃ k:Nat,k<=pn/\s10=.int .i64 (k:Nat)/\s3=.int .i64 ((sz+sumT (fun p:PrT=>if 512<p.val.length then p.val.length else 0) (x.ps.take k):Nat):Int)/\w.grownBy wr none) (fun _ s10 _=>pn - (intOf s10).toNat)
 case atStart=>exact ⟨0,Nat.zero_le _,rfl,rfl,GA.out⟩
 case round =>
  obtain ⟨k,hk,rfl,rfl,hg⟩:=hrel;have HG:=hZq hg;clear hg
  by_cases hlt:k<pn
  ·obtain ⟨p,hx⟩:∃ p,x.ps[k]?=some p:=⟨_,List.getElem?_eq_getElem (by have:=HPN.out;omega)⟩
   obtain ⟨b,off,ka',kc',va',vc',rfl,e0,e1,_⟩:=HP.out k p hx;have d0:=HG.out.cell e0 (by simp);have d1:=HG.out.cell e1 (by simp);have HT:=hZq (sumT_step (fun p:PrT=>if 512<p.val.length then p.val.length else 0) hx);have h1:=HS.out (k+1);rw [HT.out] at h1;have HPB:Hid (p.key.length<=255/\p.val.length<=262144):=⟨(HZ.out.pv p (List.mem_of_getElem? hx)).1,(HZ.out.pv p (List.mem_of_getElem? hx)).2.1⟩;obtain ⟨s,hs⟩:∃ s,sumT (fun p:PrT=>if 512<p.val.length then p.val.length else 0) (x.ps.take k)=s:=⟨_,rfl⟩;rw [hs] at h1 HT ⊢;have hpb:=HPB.out;have hpm:=HPM.out;have hsz9:=SZ.out;clear e0 e1 hx hs;generalize hk9:p.key.length=kn' at *;generalize hv9:p.val.length=vn' at *;have i1:(k:Int)<(pn:Int):=by omega
   have i0:(0:Int)<=(k:Int):=by omega
   by_cases h5:512<vn'
   ·have h5':(512:Int)<(vn':Int):=by omega
    rw [if_pos h5] at h1 HT;clear h5;go_wp2;go_roundw
    case rel=>exact ⟨k+1,by omega,by go_num,by rw [HT.out];go_num,gZq HG.out (World.grownBy_alloc _ _ none)⟩
    case measure=>simp [intOf];omega
   ·have h5':¬ (512:Int)<(vn':Int):=by omega
    rw [if_neg h5] at h1 HT;clear h5;go_wp2;go_roundw
    case rel=>exact ⟨k+1,by omega,by go_num,by rw [HT.out];go_num,gZq HG.out (World.grownBy_alloc _ _ none)⟩
    case measure=>simp [intOf];omega
  ·obtain rfl:k=pn:=by omega
   have e:x.ps.take k=x.ps:=by rw [<- HPN.out,List.take_length]
   rw [e];have hv9:=HV.out;rw [<- hv9];go_wp2;go_ret;exact ⟨rfl,HG.out⟩
theorem least_any22 (x:NoT)(pa:Option Addr)(pc:Nat)(ca:Option Addr)(cn cc:Nat)(sa:Option Addr)(sc:Nat)(ka:Option Addr)(kn kc:Nat)(z:Int)(w:World) :
  Calls Tryz.prog 69 #[.agg #[.int .i64 x.no,.int .i64 (x.lv:Int),.slice pa x.ps.length pc,.slice ca cn cc,.slice sa x.ss.length sc,.slice ka kn kc,.int .i64 (nsz x:Nat)],.int .i64 z] w fun en w'=>en=.returned (.int .i64 (min z (nsz x:Nat)))/\w.grownBy w' none:=by
 have ga:=World.grownBy_alloc w (.cells #[.int .i64 x.no,.int .i64 (x.lv:Int),.slice pa x.ps.length pc,.slice ca cn cc,.slice sa x.ss.length sc,.slice ka kn kc,.int .i64 (nsz x:Nat)] 80) none;have X1:=hZq (heap_at0 w #[.int .i64 x.no,.int .i64 (x.lv:Int),.slice pa x.ps.length pc,.slice ca cn cc,.slice sa x.ss.length sc,.slice ka kn kc,.int .i64 (nsz x:Nat)] 80);have GA:=hZq ga;clear ga;generalize x.ps.length=pn at *;generalize x.ss.length=sn at *;generalize (x.lv:Int)=lv at *;generalize x.no=no at *;generalize ((nsz x:Nat):Int)=sz at *;go_enter Tryz.func69,Tryz.ntmps69;go_upto_region 1 with fail
 generalize w.alloc (.cells #[.int .i64 no,.int .i64 lv,.slice pa pn pc,.slice ca cn cc,.slice sa sn sc,.slice ka kn kc,.int .i64 sz] 80)=w1 at *;generalize w.heap.size=D at *;have c6:=cell_heap (i:=6) X1.out rfl;rcases Int.lt_or_le sz z with h | h
 ·have HE:Hid (min z sz=sz):=by show _=_;omega
  go_wp2
  all_goals go_ret
  all_goals first | exact ⟨by rw [HE.out];rfl,GA.out⟩ | exact ⟨by rw [show min z sz=z by omega];rfl,GA.out⟩ | exact ⟨by rw [show min z sz=sz by omega];rfl,GA.out⟩
 ·have HE:Hid (min z sz=z):=by show _=_;omega
  go_wp2
  all_goals go_ret
  all_goals first | exact ⟨by rw [HE.out];rfl,GA.out⟩ | exact ⟨by rw [show min z sz=z by omega];rfl,GA.out⟩ | exact ⟨by rw [show min z sz=sz by omega];rfl,GA.out⟩
theorem most_any22 (x:NoT)(pa:Option Addr)(pc:Nat)(ca:Option Addr)(cn cc:Nat)(sa:Option Addr)(sc:Nat)(ka:Option Addr)(kn kc:Nat)(z:Int)(w:World) :
  Calls Tryz.prog 70 #[.agg #[.int .i64 x.no,.int .i64 (x.lv:Int),.slice pa x.ps.length pc,.slice ca cn cc,.slice sa x.ss.length sc,.slice ka kn kc,.int .i64 (nsz x:Nat)],.int .i64 z] w fun en w'=>en=.returned (.int .i64 (max z (nsz x:Nat)))/\w.grownBy w' none:=by
 have ga:=World.grownBy_alloc w (.cells #[.int .i64 x.no,.int .i64 (x.lv:Int),.slice pa x.ps.length pc,.slice ca cn cc,.slice sa x.ss.length sc,.slice ka kn kc,.int .i64 (nsz x:Nat)] 80) none;have X1:=hZq (heap_at0 w #[.int .i64 x.no,.int .i64 (x.lv:Int),.slice pa x.ps.length pc,.slice ca cn cc,.slice sa x.ss.length sc,.slice ka kn kc,.int .i64 (nsz x:Nat)] 80);have GA:=hZq ga;clear ga;generalize x.ps.length=pn at *;generalize x.ss.length=sn at *;generalize (x.lv:Int)=lv at *;generalize x.no=no at *;generalize ((nsz x:Nat):Int)=sz at *;go_enter Tryz.func70,Tryz.ntmps70;go_upto_region 1 with fail
 generalize w.alloc (.cells #[.int .i64 no,.int .i64 lv,.slice pa pn pc,.slice ca cn cc,.slice sa sn sc,.slice ka kn kc,.int .i64 sz] 80)=w1 at *;generalize w.heap.size=D at *;have c6:=cell_heap (i:=6) X1.out rfl;rcases Int.lt_or_le sz z with h | h
 ·have HE:Hid (max z sz=z):=by show _=_;omega
  go_wp2
  all_goals go_ret
  all_goals first | exact ⟨by rw [HE.out];rfl,GA.out⟩ | exact ⟨by rw [show max z sz=z by omega];rfl,GA.out⟩ | exact ⟨by rw [show max z sz=sz by omega];rfl,GA.out⟩
 ·have HE:Hid (max z sz=sz):=by show _=_;omega
  go_wp2
  all_goals go_ret
  all_goals first | exact ⟨by rw [HE.out];rfl,GA.out⟩ | exact ⟨by rw [show max z sz=z by omega];rfl,GA.out⟩ | exact ⟨by rw [show max z sz=sz by omega];rfl,GA.out⟩
def cnP (z:Int)(p:PrT):Nat:=p.chain.count z
def cnT (z:Int):(n:Nat)->NdT n->Nat
 | 0,x=>sumT (cnP z) (LfT.ps x)+if LfT.no x=z then 1 else 0
 | n+1,x=>sumT (cnT z n) (BnT.row (T:=NdT n) x).ns+if BnT.no (T:=NdT n) x=z then 1 else 0
def cnO (z:Int):Option TrT->Nat
 | none=>0
 | some t=>cnT z t.lv t.root
def NdO (t:Option TrT):Prop:=∀ z:Int,z≠0->cnO z t<=1
def psT:TrT->List PrT
 | ⟨0,x⟩=>LfT.ps x
 | ⟨_+1,_⟩=>[]
def kidsT:TrT->List TrT
 | ⟨0,_⟩=>[]
 | ⟨n+1,x⟩=>(BnT.row (T:=NdT n) x).ns.map fun y=>⟨n,y⟩
structure CgP (p:PrT):Prop where
 len:p.chain.length=0∨(p.chain.length:Int)=pgB p.val.length
 no:∀ z∈p.chain,2<=z/\z<524287
structure RnT where
 no:Int
 lv:Int
 ps:List (List Int × List Int)
 cs:List (List Int)
 ss:List (List Int)
 ks:List Int
def zipR (ps:List (List Int × List Int))(cs:List (List Int)):List PrT:=(List.range ps.length).map fun i=>⟨(ps.getD i ([],[])).1,(ps.getD i ([],[])).2,cs.getD i []⟩
structure BdS where
 parts:List (TrT × Nat)
 used:List Int
def tkN (S:List Int)(no:Int):List Int:=if no=0 then S else S++[no]
structure LfC (S:List Int)(n:RnT):Prop where
 lv:n.lv=0
 ne:n.ps≠[]
 ss:n.ss=[]
 ks:n.ks=[]
 cl:n.cs.length=0∨n.cs.length=n.ps.length
 el:∀ p∈zipR n.ps n.cs,Vp p/\(p.chain.length=0∨(p.chain.length:Int)=pgB p.val.length)/\(n.no≠0->frP p=0)
 tk:tkL S ((zipR n.ps n.cs).flatMap PrT.chain)=true
 sr:Srt (zipR n.ps n.cs)
 sz:size (its (zipR n.ps n.cs))<=4092
structure BrC (n:RnT)(m:Nat)(ns:List (NdT m))(ats:List Nat):Prop where
 lv:n.lv=(m:Int)+1
 hi:m+1<=15
 al:ats.length=ns.length
 ks:n.ks=ats.map fun (k:Nat)=>(k:Int)
 sl:ns.length=n.ss.length+1
 ps:n.ps=[]
 cs:n.cs=[]
 old:n.no≠0->∀ y∈ns,noT m y≠0
 vs:∀ s∈n.ss,Vs s
 ap:∀ (i:Nat) (x:NdT m) (s:List Int) (y:NdT m),ns[i]?=some x->n.ss[i]?=some s->ns[i+1]?=some y->cmpZ (lastK (flatT m x)) s<0/\cmpZ s (firstK (flatT m y))<=0/\joinsT m x s y=false
 sz:bsize n.ss<=4092
def AdR (s:BdS)(pl:Nat)(n:RnT)(s':BdS):Prop :=
 (n.no=0∨2<=n.no/\n.no<524287/\n.no ∉ s.used) /\
 ((LfC (tkN s.used n.no) n/\s'=⟨s.parts++[(⟨0,(⟨n.no,zipR n.ps n.cs⟩:LfT)⟩,pl)],tkN s.used n.no++(zipR n.ps n.cs).flatMap PrT.chain⟩) ∨
  ∃ (m:Nat) (ns:List (NdT m)) (ats:List Nat) (rest:List (TrT × Nat)),BrC n m ns ats/\s.parts=rest++(upN m ns).zip ats/\s'=⟨rest++[(⟨m+1,(⟨n.no,⟨ns,n.ss⟩⟩:BnT (NdT m))⟩,pl)],tkN s.used n.no⟩)
def RuR:BdS->Nat->List RnT->BdS->Prop
 | s,_,[],s'=>s=s'
 | s,k,n::l,s'=>∃ s1,AdR s k n s1/\RuR s1 (k+1) l s'
theorem ru_app:∀ {l:List RnT} {s:BdS} {k:Nat} {s1:BdS} {l2:List RnT} {s2:BdS},RuR s k l s1->RuR s1 (k+l.length) l2 s2->RuR s k (l++l2) s2
 | [],s,k,s1,l2,s2,h,h2=>by
  have e:s=s1:=h;subst e;simpa using h2
 | n::l,s,k,s1,l2,s2,h,h2=>by
  obtain ⟨s3,a,b⟩:=h;refine ⟨s3,a,ru_app b ?_⟩;rw [List.length_cons] at h2;rw [show k+1+l.length=k+(l.length+1) by omega];exact h2
theorem count_flat (z:Int):∀ L:List PrT,(L.flatMap PrT.chain).count z=sumT (cnP z) L
 | []=>rfl
 | p::L=>by
  rw [List.flatMap_cons,List.count_append,count_flat z L,sumT]
  rfl
structure AgT (n:Nat)(x:NdT n):Prop where
 ok:OkT n x
 nj:NjT n x
 hn:HnT n x
 nq:NqT n x
 cg:∀ p∈flatT n x,CgP p
 hi:n<=15
theorem size_pos10 (n:Nat)(x:NdT n):1<=sizeT n x:=by
 cases n with
 | zero=>exact Nat.le_refl 1
 | succ n=>exact Nat.le_add_left 1 _
theorem tkN_mem {S:List Int}{no z:Int}:z∈tkN S no↔z∈S∨z≠0/\no=z:=by
 unfold tkN
 by_cases h:no=0
 ·rw [if_pos h]
  constructor
  ·exact fun k=>.inl k
  ·rintro (k | ⟨k1,k2⟩)
   ·exact k
   ·exact absurd (k2.symm.trans h) k1
 ·rw [if_neg h,List.mem_append,List.mem_singleton]
  constructor
  ·rintro (k | k)
   ·exact .inl k
   ·exact .inr ⟨by rw [k];exact h,k.symm⟩
  ·rintro (k | ⟨_,k⟩)
   ·exact .inl k
   ·exact .inr k.symm
structure RwE (n:RnT)(v:NoT):Prop where
 no:n.no=v.no
 lv:n.lv=(v.lv:Int)
 ps:zipR n.ps n.cs=v.ps
 cl:n.cs.length=0∨n.cs.length=n.ps.length
 ss:n.ss=v.ss
 ks:n.ks=v.ks.map fun (k:Nat)=>(k:Int)
structure BdI (l:List RnT)(s:BdS):Prop where
 ag:∀ e∈s.parts,AgT e.1.lv e.1.root
 pl:s.parts.map Prod.snd=atP 0 (s.parts.map Prod.fst)
 ln:l.length=(tellP 0 (s.parts.map Prod.fst)).length
 eq:∀ (i:Nat) (n:RnT) (v:NoT),l[i]?=some n->(tellP 0 (s.parts.map Prod.fst))[i]?=some v->RwE n v
 nz:∀ z∈s.used,z≠0
 us:∀ z,z≠0->(z∈s.used↔0<sumT (fun e:TrT × Nat=>cnT z e.1.lv e.1.root) s.parts)
 one:∀ z,z≠0->sumT (fun e:TrT × Nat=>cnT z e.1.lv e.1.root) s.parts<=1
theorem BdI.start:BdI [] ⟨[],[]⟩:=⟨(fun e h=>by cases h),rfl,rfl,(fun i n v h=>by simp at h),(fun z h=>by cases h),(fun z _=>by simp [sumT]),(fun z _=>Nat.zero_le _)⟩
theorem eq_snoc {l:List RnT}{vs:List NoT}{n:RnT}{v:NoT}(hl:l.length=vs.length)(h:∀ (i:Nat) (n:RnT) (v:NoT),l[i]?=some n->vs[i]?=some v->RwE n v)(k:RwE n v):∀ (i:Nat) (n':RnT) (v':NoT),(l++[n])[i]?=some n'->(vs++[v])[i]?=some v'->RwE n' v':=fun i n' v' h1 h2=>by
 by_cases hi:i<l.length
 ·rw [List.getElem?_append_left hi] at h1
  rw [List.getElem?_append_left (by omega)] at h2;exact h i n' v' h1 h2
 ·rw [List.getElem?_append_right (by omega)] at h1
  rw [List.getElem?_append_right (by omega)] at h2
  have h0:i - l.length=0:=by
   have:=(List.getElem?_eq_some_iff.1 h1).1;simp only [List.length_singleton] at this;omega
  rw [h0] at h1;rw [show i - vs.length=0 by omega] at h2;have e1:n=n':=by simpa using h1
  have e2:v=v':=by simpa using h2
  rw [<- e1,<- e2];exact k
theorem bd_leaf {l:List RnT}{s:BdS}{n:RnT}(hI:BdI l s)(hno:n.no=0∨2<=n.no/\n.no<524287/\n.no ∉ s.used)(h:LfC (tkN s.used n.no) n) :
  BdI (l++[n]) ⟨s.parts++[(⟨0,(⟨n.no,zipR n.ps n.cs⟩:LfT)⟩,l.length)],tkN s.used n.no++(zipR n.ps n.cs).flatMap PrT.chain⟩:=by
 obtain ⟨t1,t2⟩:=tell_leaf (s.parts.map Prod.fst) (⟨n.no,zipR n.ps n.cs⟩:LfT);have hrng:∀ z∈(zipR n.ps n.cs).flatMap PrT.chain,2<=z/\z<524287/\z ∉ tkN s.used n.no:=tk_q h.tk;have hnd:=tk_nodup h.tk
 have hcg:∀ p∈zipR n.ps n.cs,CgP p:=fun p hp=>⟨(h.el p hp).2.1,fun z hz=>by
  have:=hrng z (List.mem_flatMap.2 ⟨p,hp,hz⟩);exact ⟨this.1,this.2.1⟩⟩
 have hzne:zipR n.ps n.cs≠[]:=fun e=>h.ne (by
  have:=congrArg List.length e;unfold zipR at this;rw [List.length_map,List.length_range] at this;exact List.eq_nil_of_length_eq_zero this)
 have hcn:∀ z,cnT z 0 (⟨n.no,zipR n.ps n.cs⟩:LfT)=((zipR n.ps n.cs).flatMap PrT.chain).count z+if n.no=z then 1 else 0:=fun z=>by rw [count_flat];rfl
 have hag:AgT 0 (⟨n.no,zipR n.ps n.cs⟩:LfT):=by
  refine ⟨⟨hzne,h.sr,h.sz,fun p hp=>(h.el p hp).1⟩,trivial,fun h0 p hp=>(h.el p hp).2.2 h0,⟨?_,fun p hp z hz=>?_⟩,hcg,Nat.zero_le _⟩
  ·show NoQ n.no
   rcases hno with h0 | ⟨h1,h2,_⟩
   ·exact .inl h0
   ·exact .inr ⟨h1,h2⟩
  ·exact .inr ((hcg p hp).no z hz)
 have hsum:∀ z,sumT (fun e:TrT × Nat=>cnT z e.1.lv e.1.root) (s.parts++[(⟨0,(⟨n.no,zipR n.ps n.cs⟩:LfT)⟩,l.length)])=sumT (fun e:TrT × Nat=>cnT z e.1.lv e.1.root) s.parts+(((zipR n.ps n.cs).flatMap PrT.chain).count z+if n.no=z then 1 else 0):=fun z=>by
  rw [sumT_app,<- hcn]
  rfl
 refine ⟨fun e he=>?_,?_,?_,?_,fun z hz=>?_,fun z h0=>?_,fun z h0=>?_⟩
 ·rcases List.mem_append.1 he with he | he
  ·exact hI.ag e he
  ·rw [List.mem_singleton.1 he]
   exact hag
 ·show (s.parts++[_]).map Prod.snd=atP 0 ((s.parts++[_]).map Prod.fst)
  rw [List.map_append,List.map_append]
  show s.parts.map Prod.snd++[l.length]=atP 0 (s.parts.map Prod.fst++[_])
  rw [t2,hI.pl,hI.ln]
 ·show _=(tellP 0 ((s.parts++[_]).map Prod.fst)).length
  rw [List.map_append]
  show _=(tellP 0 (s.parts.map Prod.fst++[_])).length
  rw [t1,List.length_append,List.length_append,hI.ln]
  rfl
 ·intro i n' v h1 h2
  simp only [List.map_append,List.map_cons,List.map_nil] at h2;rw [t1] at h2;exact eq_snoc hI.ln hI.eq ⟨rfl,h.lv,rfl,h.cl,h.ss,by rw [h.ks];rfl⟩ i n' v h1 h2
 ·rcases List.mem_append.1 hz with hz | hz
  ·rcases tkN_mem.1 hz with hz | ⟨hz,_⟩
   ·exact hI.nz z hz
   ·exact hz
  ·have:=hrng z hz
   omega
 ·show z∈tkN s.used n.no++_↔_
  rw [hsum,List.mem_append,tkN_mem,hI.us z h0,<- List.count_pos_iff];constructor
  ·rintro ((k | ⟨_,k⟩) | k)
   ·omega
   ·rw [if_pos k]
    omega
   ·omega
  ·intro k
   by_cases k1:0<sumT (fun e:TrT × Nat=>cnT z e.1.lv e.1.root) s.parts
   ·exact .inl (.inl k1)
   ·by_cases k2:n.no=z
    ·exact .inl (.inr ⟨h0,k2⟩)
    ·rw [if_neg k2] at k
     exact .inr (by omega)
 ·show sumT _ (s.parts++[_])<=1
  rw [hsum];have c1:=hI.one z h0;have c2:=List.nodup_iff_count.1 hnd z
  by_cases k1:0<((zipR n.ps n.cs).flatMap PrT.chain).count z
  ·have k2:=(hrng z (List.count_pos_iff.1 k1)).2.2
   rw [tkN_mem,hI.us z h0] at k2;have k3:¬ n.no=z:=fun e=>k2 (.inr ⟨h0,e⟩)
   have k4:¬ 0<sumT (fun e:TrT × Nat=>cnT z e.1.lv e.1.root) s.parts:=fun e=>k2 (.inl e)
   rw [if_neg k3];omega
  ·by_cases k2:n.no=z
   ·rw [if_pos k2]
    rcases hno with e | ⟨_,_,e⟩
    ·exact absurd (k2.symm.trans e) h0
    ·rw [k2,hI.us z h0] at e
     omega
   ·rw [if_neg k2]
    omega
theorem zip_fst {ns:List TrT}{ats:List Nat}(h:ats.length=ns.length):(ns.zip ats).map Prod.fst=ns/\(ns.zip ats).map Prod.snd=ats:=⟨List.map_fst_zip (by omega),List.map_snd_zip (by omega)⟩
theorem sum_zip (g:TrT->Nat):∀ {ns:List TrT} {ats:List Nat},ats.length=ns.length->sumT (fun e:TrT × Nat=>g e.1) (ns.zip ats)=sumT g ns
 | [],_,_=>rfl
 | x::ns,[],h=>by simp at h
 | x::ns,a::ats,h=>by
  rw [List.zip_cons_cons,sumT,sumT,sum_zip g (by simpa using h)]
theorem sum_upN (z:Int)(m:Nat):∀ ns:List (NdT m),sumT (fun t:TrT=>cnT z t.lv t.root) (upN m ns)=sumT (cnT z m) ns
 | []=>rfl
 | x::ns=>by
  show cnT z m x+sumT _ (upN m ns)=_
  rw [sum_upN z m ns]
  rfl
theorem bd_branch {l:List RnT}{s:BdS}{n:RnT}{m:Nat}{ns:List (NdT m)}{ats:List Nat}{rest:List (TrT × Nat)}(hI:BdI l s)(hno:n.no=0∨2<=n.no/\n.no<524287/\n.no ∉ s.used)(h:BrC n m ns ats)(hp:s.parts=rest++(upN m ns).zip ats) :
  BdI (l++[n]) ⟨rest++[(⟨m+1,(⟨n.no,⟨ns,n.ss⟩⟩:BnT (NdT m))⟩,l.length)],tkN s.used n.no⟩:=by
 obtain ⟨t1,t2⟩:=tell_branch (rest.map Prod.fst) m n.no ns n.ss;have hul:ats.length=(upN m ns).length:=by unfold upN;rw [List.length_map];exact h.al
 obtain ⟨z1,z2⟩:=zip_fst hul;have hfst:s.parts.map Prod.fst=rest.map Prod.fst++upN m ns:=by rw [hp,List.map_append,z1]
 have hsnd:s.parts.map Prod.snd=rest.map Prod.snd++ats:=by rw [hp,List.map_append,z2]
 have hln:=hI.ln;rw [hfst] at hln;have hpl:=hI.pl;rw [hfst,hsnd] at hpl
 have happ:atP 0 (rest.map Prod.fst++upN m ns)=atP 0 (rest.map Prod.fst)++atP (tellP 0 (rest.map Prod.fst)).length (upN m ns):=by
  show placesL _ 0 _=_
  rw [placesL_app,Nat.zero_add]
  rfl
 rw [happ] at hpl
 have hlen:(rest.map Prod.snd).length=(atP 0 (rest.map Prod.fst)).length:=by
  rw [List.length_map]
  show _=(placesL _ 0 (rest.map Prod.fst)).length
  rw [placesL_len,List.length_map]
 obtain ⟨hp1,hp2⟩:=List.append_inj hpl hlen
 have hkid:∀ y∈ns,AgT m y:=fun y hy=>by
  have hy2:(⟨m,y⟩:TrT)∈s.parts.map Prod.fst:=by
   rw [hfst];exact List.mem_append_right _ (List.mem_map.2 ⟨y,hy,rfl⟩)
  obtain ⟨e,he,e2⟩:=List.mem_map.1 hy2;have:=hI.ag e he;rw [e2] at this;exact this
 have hnq:NoQ n.no:=by
  rcases hno with h0 | ⟨h1,h2,_⟩
  ·exact .inl h0
  ·exact .inr ⟨h1,h2⟩
 have hag:AgT (m+1) (⟨n.no,⟨ns,n.ss⟩⟩:BnT (NdT m)):=by
  refine ⟨⟨fun e=>?_,fun y hy=>(hkid y hy).ok,?_,h.sz,h.vs⟩,⟨fun i a t b a1 a2 a3=>(h.ap i a t b a1 a2 a3).2.2,fun y hy=>(hkid y hy).nj⟩,⟨h.old,fun y hy=>(hkid y hy).hn⟩,⟨⟨hnq,fun y hy=>(hkid y hy).nq.no⟩,fun p hp' z hz=>?_⟩,fun p hp'=>?_,h.hi⟩
  ·have e':ns=[]:=e
   have:=h.sl;rw [e'] at this;simp at this
  ·exact sep_ends n.ss.length ns n.ss h.sl rfl (fun y hy=>(hkid y hy).ok) (fun i a t b a1 a2 a3=>⟨(h.ap i a t b a1 a2 a3).1,(h.ap i a t b a1 a2 a3).2.1⟩)
  ·obtain ⟨y,hy,hpy⟩:=List.mem_flatMap.1 hp'
   exact (hkid y hy).nq.ch p hpy z hz
  ·obtain ⟨y,hy,hpy⟩:=List.mem_flatMap.1 hp'
   exact (hkid y hy).cg p hpy
 have hsum:∀ z,sumT (fun e:TrT × Nat=>cnT z e.1.lv e.1.root) (rest++[(⟨m+1,(⟨n.no,⟨ns,n.ss⟩⟩:BnT (NdT m))⟩,l.length)])=sumT (fun e:TrT × Nat=>cnT z e.1.lv e.1.root) s.parts+(if n.no=z then 1 else 0):=fun z=>by
  rw [hp,sumT_app,sumT_app,sum_zip (fun t=>cnT z t.lv t.root) hul,sum_upN]
  show _+(sumT (cnT z m) ns+(if n.no=z then 1 else 0)+0)=_
  omega
 refine ⟨fun e he=>?_,?_,?_,?_,fun z hz=>?_,fun z h0=>?_,fun z h0=>?_⟩
 ·rcases List.mem_append.1 he with he | he
  ·exact hI.ag e (by rw [hp];exact List.mem_append_left _ he)
  ·rw [List.mem_singleton.1 he]
   exact hag
 ·show (rest++[_]).map Prod.snd=atP 0 ((rest++[_]).map Prod.fst)
  rw [List.map_append,List.map_append]
  show rest.map Prod.snd++[l.length]=atP 0 (rest.map Prod.fst++[_])
  rw [t2,hp1,hln]
 ·show _=(tellP 0 ((rest++[_]).map Prod.fst)).length
  rw [List.map_append]
  show _=(tellP 0 (rest.map Prod.fst++[_])).length
  rw [t1,List.length_append,List.length_append,hln]
  rfl
 ·intro i n' v h1 h2
  simp only [List.map_append,List.map_cons,List.map_nil] at h2;rw [t1] at h2;have heq:=hI.eq;rw [hfst] at heq;refine eq_snoc hln heq ⟨rfl,?_,?_,.inl (by rw [h.cs];rfl),rfl,by rw [h.ks,hp2]⟩ i n' v h1 h2
  ·show n.lv=((m+1:Nat):Int)
   rw [h.lv];omega
  ·show zipR n.ps n.cs=[]
   rw [h.ps]
   rfl
 ·rcases tkN_mem.1 hz with hz | ⟨hz,_⟩
  ·exact hI.nz z hz
  ·exact hz
 ·show z∈tkN s.used n.no↔_
  rw [hsum,tkN_mem,hI.us z h0];constructor
  ·rintro (k | ⟨_,k⟩)
   ·omega
   ·rw [if_pos k]
    omega
  ·intro k
   by_cases k2:n.no=z
   ·exact .inr ⟨h0,k2⟩
   ·rw [if_neg k2] at k
    exact .inl (by omega)
 ·show sumT _ (rest++[_])<=1
  rw [hsum];have c1:=hI.one z h0
  by_cases k2:n.no=z
  ·rw [if_pos k2]
   rcases hno with e | ⟨_,_,e⟩
   ·exact absurd (k2.symm.trans e) h0
   ·rw [k2,hI.us z h0] at e
    omega
  ·rw [if_neg k2]
   omega
theorem bd_step {l:List RnT}{s s':BdS}{n:RnT}(hI:BdI l s)(h:AdR s l.length n s'):BdI (l++[n]) s':=by
 obtain ⟨hno,⟨hl,rfl⟩ | ⟨m,ns,ats,rest,hb,hp,rfl⟩⟩:=h
 ·exact bd_leaf hI hno hl
 ·exact bd_branch hI hno hb hp
theorem bd_all:∀ {l2 l:List RnT} {s s':BdS},BdI l s->RuR s l.length l2 s'->BdI (l++l2) s'
 | [],l,s,s',hI,h=>by
  have e:s=s':=h;subst e;simpa using hI
 | n::l2,l,s,s',hI,h=>by
  obtain ⟨s1,a,b⟩:=h;have h1:=bd_step hI a;have h2:=bd_all (l:=l++[n]) h1 (by rw [List.length_append];exact b);rw [List.append_assoc] at h2;exact h2
theorem upN_inj {m:Nat}:∀ {a b:List (NdT m)},upN m a=upN m b->a=b
 | [],[],_=>rfl
 | [],y::b,h=>by simp [upN] at h
 | x::a,[],h=>by simp [upN] at h
 | x::a,y::b,h=>by
  have h':(⟨m,x⟩:TrT)::upN m a=(⟨m,y⟩:TrT)::upN m b:=h;injection h' with h1 h2
  simp only [TrT.mk.injEq,heq_eq_eq,true_and] at h1;rw [h1,upN_inj h2]
theorem ad_det {s s1 s2:BdS}{k:Nat}{n:RnT}(h1:AdR s k n s1)(h2:AdR s k n s2):s1=s2:=by
 obtain ⟨_,⟨a1,e1⟩ | ⟨m1,ns1,at1,r1,b1,p1,e1⟩⟩:=h1
 ·obtain ⟨_,⟨a2,e2⟩ | ⟨m2,ns2,at2,r2,b2,p2,e2⟩⟩:=h2
  ·rw [e1,e2]
  ·exfalso
   have h1:=a1.lv;have h2:=b2.lv;omega
 ·obtain ⟨_,⟨a2,e2⟩ | ⟨m2,ns2,at2,r2,b2,p2,e2⟩⟩:=h2
  ·exfalso
   have h1:=a2.lv;have h2:=b1.lv;omega
  ·have hm:m1=m2:=by
    have h1:=b1.lv;have h2:=b2.lv;omega
   subst hm
   have hat:at1=at2:=by
    have h:=b1.ks.symm.trans b2.ks
    have hj:∀ {a b:List Nat},(a.map fun (k:Nat)=>(k:Int))=(b.map fun (k:Nat)=>(k:Int))->a=b:=by
     intro a
     induction a with
     | nil=>intro b h;cases b with
      | nil=>rfl
      | cons y b=>simp at h
     | cons x a ih=>intro b h;cases b with
      | nil=>simp at h
      | cons y b =>
       simp only [List.map_cons,List.cons.injEq] at h;rw [ih h.2,show x=y by omega]
    exact hj h
   have hl1:(upN m1 ns1).length=at1.length:=by unfold upN;rw [List.length_map];exact b1.al.symm
   have hl2:(upN m1 ns2).length=at2.length:=by unfold upN;rw [List.length_map];exact b2.al.symm
   rw [p1] at p2;have hlen:((upN m1 ns1).zip at1).length=((upN m1 ns2).zip at2).length:=by rw [List.length_zip,List.length_zip,hl1,hl2,hat]
   obtain ⟨q1,q2⟩:=List.append_inj' p2 hlen;have q3:=congrArg (List.map Prod.fst) q2;rw [(zip_fst hl1.symm).1,(zip_fst hl2.symm).1] at q3;have q4:=upN_inj q3;rw [e1,e2,q1,q4]
theorem ru_det:∀ {l:List RnT} {s s1 s2:BdS} {k:Nat},RuR s k l s1->RuR s k l s2->s1=s2
 | [],s,s1,s2,k,h1,h2=>by
  have e1:s=s1:=h1;have e2:s=s2:=h2;rw [<- e1,<- e2]
 | n::l,s,s1,s2,k,h1,h2=>by
  obtain ⟨t1,a1,b1⟩:=h1;obtain ⟨t2,a2,b2⟩:=h2;have:=ad_det a1 a2;subst this;exact ru_det b1 b2
theorem ru_cut:∀ {l1 l2:List RnT} {s s':BdS} {k:Nat},RuR s k (l1++l2) s'->∃ s1,RuR s k l1 s1/\RuR s1 (k+l1.length) l2 s'
 | [],l2,s,s',k,h=>⟨s,rfl,by simpa using h⟩
 | n::l1,l2,s,s',k,h=>by
  obtain ⟨t,a,b⟩:=h;obtain ⟨s1,c,d⟩:=ru_cut b;refine ⟨s1,⟨t,a,c⟩,?_⟩;rw [List.length_cons,show k+(l1.length+1)=k+1+l1.length by omega];exact d
theorem ru_next {l:List RnT}{s s' si:BdS}{i:Nat}{n:RnT}(h:RuR s 0 l s')(hi:RuR s 0 (l.take i) si)(hn:l[i]?=some n):∃ s1,AdR si i n s1:=by
 have e:l=l.take i++(n::l.drop (i+1)):=one_at hn;rw [e] at h;obtain ⟨s1,a,t,b,_⟩:=ru_cut h;have:=ru_det a hi;subst this;rw [Nat.zero_add,take_len hn] at b;exact ⟨t,b⟩
theorem ru_snoc {l:List RnT}{s si s1:BdS}{i:Nat}{n:RnT}(hi:RuR s 0 (l.take i) si)(hn:l[i]?=some n)(h:AdR si i n s1):RuR s 0 (l.take (i+1)) s1:=by
 rw [takeS hn];refine ru_app hi ⟨s1,?_,rfl⟩;rw [Nat.zero_add,take_len hn];exact h
structure BlT (l:List RnT)(t:TrT):Prop where
 ag:AgT t.lv t.root
 sd:SdT (some t)
 nd:NdO (some t)
 ln:l.length=(tellO (some t)).length
 eq:∀ (i:Nat) (n:RnT) (v:NoT),l[i]?=some n->(tellO (some t))[i]?=some v->RwE n v
theorem tellP_one (t:TrT):tellP 0 [t]=tellO (some t):=by
 show tellT t.lv 0 t.root++[]=_
 rw [List.append_nil]
 rfl
theorem last_ks {t:TrT}{v:NoT}(h:(tellO (some t))[(tellO (some t)).length - 1]?=some v):v.ks.length=(kidsT t).length:=by
 obtain ⟨n,x⟩:=t;cases n with
 | zero =>
  have e:(⟨LfT.no x,0,LfT.ps x,[],[]⟩:NoT)=v:=by simpa [tellO,tellT] using h
  rw [<- e]
  rfl
 | succ n =>
  have h':(tellL (tellT n) 0 (BnT.row (T:=NdT n) x).ns++[(⟨BnT.no (T:=NdT n) x,n+1,[],(BnT.row (T:=NdT n) x).ss,placesL (tellT n) 0 (BnT.row (T:=NdT n) x).ns⟩:NoT)])[(tellL (tellT n) 0 (BnT.row (T:=NdT n) x).ns++[(⟨BnT.no (T:=NdT n) x,n+1,[],(BnT.row (T:=NdT n) x).ss,placesL (tellT n) 0 (BnT.row (T:=NdT n) x).ns⟩:NoT)]).length - 1]?=some v:=h;rw [List.length_append,List.getElem?_append_right (by simp)] at h';have e:(⟨BnT.no (T:=NdT n) x,n+1,[],(BnT.row (T:=NdT n) x).ss,placesL (tellT n) 0 (BnT.row (T:=NdT n) x).ns⟩:NoT)=v:=by simpa using h'
  rw [<- e];simp [kidsT,placesL_len]
theorem bd_end {l:List RnT}{s:BdS}{t:TrT}{a:Nat}(hI:BdI l s)(hp:s.parts=[(t,a)])(hk:∀ n,l[l.length - 1]?=some n->n.ks.length≠1):BlT l t:=by
 have hag:AgT t.lv t.root:=hI.ag (t,a) (by rw [hp];exact List.mem_singleton.2 rfl);have hln:=hI.ln;have heq:=hI.eq;have hone:=hI.one;rw [hp] at hln heq hone;have e1:([(t,a)]:List (TrT × Nat)).map Prod.fst=[t]:=rfl;rw [e1,tellP_one] at hln heq;refine ⟨hag,⟨hag.ok,hag.nj,?_,hag.nq,fun p hp=>?_⟩,fun z h0=>?_,hln,heq⟩
 ·obtain ⟨n,x⟩:=t
  cases n with
  | zero=>trivial
  | succ n =>
   show 2<=(BnT.row (T:=NdT n) x).ns.length
   have hne:(BnT.row (T:=NdT n) x).ns≠[]:=hag.ok.1
   have hpos:0<(tellO (some ⟨n+1,x⟩)).length:=by
    show 0<(tellT (n+1) 0 x).length
    rw [tell_len];exact size_pos10 _ _
   obtain ⟨v,hv⟩:∃ v,(tellO (some ⟨n+1,x⟩))[(tellO (some ⟨n+1,x⟩)).length - 1]?=some v:=⟨_,List.getElem?_eq_getElem (by omega)⟩;obtain ⟨m,hm⟩:∃ m,l[l.length - 1]?=some m:=⟨_,List.getElem?_eq_getElem (by omega)⟩;have h1:=hk m hm;have h2:=(heq _ m v hm (by rw [hln];exact hv)).ks;have h3:=last_ks hv;rw [h2,List.length_map,h3] at h1;have h4:(kidsT (⟨n+1,x⟩:TrT)).length=(BnT.row (T:=NdT n) x).ns.length:=by simp [kidsT]
   rw [h4] at h1;have h5:(BnT.row (T:=NdT n) x).ns.length≠0:=fun e=>hne (List.eq_nil_of_length_eq_zero e)
   omega
 ·have hc:=(hag.cg p hp).len
  have:=pgB_le (p.val.length:Int);omega
 ·have:=hone z h0
  have e:sumT (fun e:TrT × Nat=>cnT z e.1.lv e.1.root) [(t,a)]=cnT z t.lv t.root+0:=rfl;rw [e] at this
  show cnT z t.lv t.root<=1
  omega
def BoxP (P:Prop)(en:Ending):Prop:=∃ f:Bool,en=.returned (.bool f)/\(f=true->P)/\(P->f=true)
theorem srt_two {L:List PrT}(h:Srt L){i:Nat}{p q:PrT}(hp:L[i]?=some p)(hq:L[i+1]?=some q):cmpZ p.key q.key<0:=by
 obtain ⟨u1,e1⟩:=List.getElem?_eq_some_iff.1 hp;obtain ⟨u2,e2⟩:=List.getElem?_eq_some_iff.1 hq;have:=List.pairwise_iff_getElem.1 h i (i+1) u1 u2 (by omega);rw [e1,e2] at this;exact this
theorem seT_nb {w:World}{b:Nat}{S:List Int}(h:SeT w b S):NbT w b:=by
 obtain ⟨D,h1,h2,h3⟩:=h
 exact ⟨D,h1,fun k hk=>by
  obtain ⟨z,hz,e⟩:=(h2 k).1 hk;exact ⟨z,e,h3 z hz⟩⟩
theorem risingX {w:World}{a:Option Addr}{n c:Nat}{L:List PrT}(hl:PsT w a n c L)(bl:∀ p∈L,Bt p.key) :
  Calls Tryz.prog 108 #[.slice a n c] w fun en w'=>BoxP (Srt L) en/\w.grownBy w' none:=by
 have HL:=hZq hl;have HB:=hZq bl;have hlen:=hl.len;obtain ⟨hn1,hn2,_⟩:=hl.cap;clear hl bl;go_enter Tryz.func108,Tryz.ntmps108;go_wp2;go_loopw [3] (fun si wr=>∃ i:Nat,(i+1<=n∨i=0)/\si=.int .i64 ((i+1:Nat):Int)/\(∀ j,j<i->cmpZ (keyT L j) (keyT L (j+1))<0)/\Qt w wr) (fun si _=>n - (intOf si).toNat)
 case atStart=>exact ⟨0,.inr rfl,rfl,fun j h=>by omega,Qt.refl _⟩
 case round =>
  obtain ⟨i,hi,rfl,hs,hq⟩:=hrel;have HS:=hZq hs;have HQ:=hZq hq;clear hs hq
  by_cases hlt:i+1<n
  ·obtain ⟨p,p1,p2,p3⟩:=keyT_mem (ps:=L) (i:=i) (by omega)
   obtain ⟨q,q1,q2,q3⟩:=keyT_mem (ps:=L) (i:=i+1) (by omega);obtain ⟨g,off,qa,qn,qc,va,vn,vc,ca,cn,cc,rfl,c0,c1,c2,hp⟩:=HL.out.pair p1;obtain ⟨g',off',ra,rn,rc,va',vn',vc',ca',cn',cc',e,d0,d1,d2,hr⟩:=HL.out.pair q1;simp only [Option.some.injEq,Addr.mk.injEq,and_true] at e;obtain ⟨rfl,rfl⟩:=e;have HC:=hZq (fun (W:World) (h:W.heap=wr.heap)=>compare_any qa ra qn rn qc rc p.key q.key W (hp.k.b.heap (h.trans HQ.out.heap)) (hr.k.b.heap (h.trans HQ.out.heap)) (HB.out p p3) (HB.out q q3));rw [p2,q2] at HC;rw [<- HQ.out.cell] at c0 d0
   have HD:Hid (cmpZ (keyT L i) (keyT L (i+1))<0->∀ j,j<i+1->cmpZ (keyT L j) (keyT L (j+1))<0):=by
    intro h j hj
    by_cases e:j=i
    ·subst e;exact h
    ·exact HS.out j (by omega)
   have HX:Hid (¬ cmpZ (keyT L i) (keyT L (i+1))<0->¬ Srt L):=fun h hs=>h (by rw [<- p2,<- q2];exact srt_two hs p1 q1)
   clear hp hr c1 c2 d1 d2;generalize cmpZ (keyT L i) (keyT L (i+1))=z at *;have g1:((i+1:Nat):Int)<(n:Int):=by omega
   have g0:(0:Int)<=((i+1:Nat):Int):=by omega
   have g2:((i+1:Nat):Int) - 1=(i:Int):=by omega
   have g3:(i:Int)<(n:Int):=by omega
   have g4:(0:Int)<=(i:Int):=by omega
   obtain ⟨j,hj⟩:∃ j,i+1=j:=⟨_,rfl⟩;rw [hj] at g1 g0 g2 d0 ⊢;have HJ:=hZq hj;clear hj
   by_cases hz:z<0
   ·have hz':decide (0<=z)=false:=decide_eq_false (by omega)
    go_wp2
    go_quiet ((go_at_call 126;exact Calls.quiet_of_same (HC.out _ rfl)))
    go_wp2;go_roundw
    case rel=>exact ⟨i+1,by omega,by have:=HJ.out;go_num,HD.out hz,HQ.out.trans (Qt.drewN _ _)⟩
    case measure=>have:=HJ.out;simp [intOf];omega
   ·have hz':decide (0<=z)=true:=decide_eq_true (by omega)
    go_wp2
    go_quiet ((go_at_call 126;exact Calls.quiet_of_same (HC.out _ rfl)))
    go_wp2;go_ret;exact ⟨⟨false,rfl,(fun e=>by cases e),fun e=>absurd e (HX.out hz)⟩,(HQ.out.trans (Qt.drewN _ _)).grown _⟩
  ·have g1:¬ ((i+1:Nat):Int)<(n:Int):=by omega
   obtain ⟨j,hj⟩:∃ j,i+1=j:=⟨_,rfl⟩;rw [hj] at g1 ⊢;clear hj;go_wp2;go_ret;refine ⟨⟨true,rfl,(fun _=>srt_adj L fun j hj=>HS.out j (by omega)),fun _=>rfl⟩,HQ.out.grown none⟩
def TkcX (w:World)(b:Nat)(vn cn:Nat)(zs S:List Int)(en:Ending)(w':World):Prop:=BoxP ((0<cn->(cn:Int)=pgB vn)/\tkL S zs=true) en/\(en=.returned (.bool true)->SeT w' b (S++zs))/\w.grownBy w' (some b)
theorem takeChainX (B b:Nat)(ka:Option Addr)(kn kc:Nat)(va:Option Addr)(vn vc:Nat)(ca:Option Addr)(cn cc:Nat)(zs S:List Int)(w:World)(hB:w.cell? ⟨B,1,none⟩=some (.map (some b)))(h:SeT w b S)(hz:NmT w ca cn cc zs)(zr:∀ z∈zs,-9223372036854775808<=z/\z<=9223372036854775807) :
  Calls Tryz.prog 133 #[.pointer (some ⟨B,0,none⟩),.agg #[.slice ka kn kc,.slice va vn vc,.slice ca cn cc]] w fun en w'=>TkcX w b vn cn zs S en w':=by
 have hlen:=hz.len;obtain ⟨hc1,hc2⟩:cn<=cc/\cc<=9223372036854775807:=⟨hz.cap,hz.c2⟩;have G1:=hZq (World.grownBy_alloc w (.cells #[.slice ka kn kc,.slice va vn vc,.slice ca cn cc] 106) none);have HB:=hZq h;have HZ:=hZq hz;have HR:=hZq zr;have HC:=hZq hB;have hlt:=cell_lt hB;clear h hz zr hB
 by_cases hcn:0<cn
 ·have h0:(0:Int)<(cn:Int):=by omega
  by_cases hpg:(cn:Int)=pgB vn
  ·have hp':((cn:Int) != pgB vn)=false:=by simp [hpg]
   have HPG:=hZq hpg;clear hpg;go_enter Tryz.func133,Tryz.ntmps133;go_wp2
   go_quiet ((go_at_call 61;exact Calls.quiet_of_same (pagesB_any _ _)))
   go_wp2;go_loopw [6,24] (fun _ si wr=>∃ i:Nat,i<=cn/\si=.int .i64 i/\tkL S (zs.take i)=true/\SeT wr b (S++zs.take i)/\w.grownBy wr (some b)) (fun _ si _=>cn - (intOf si).toNat)
   case atStart =>
    have g:=gZq G1.out ((Qt.drewN (w.alloc (.cells #[.slice ka kn kc,.slice va vn vc,.slice ca cn cc] 106)) nq).grown none);exact ⟨0,Nat.zero_le _,rfl,rfl,by simpa using HB.out.keptN g,grown_any g⟩
   case round =>
    obtain ⟨i,hi,rfl,hs,hb,hg⟩:=hrel;have HS:=hZq hs;have HN:=hZq hb;have HG:=hZq hg;clear hs hb hg
    by_cases hlt2:i<cn
    ·obtain ⟨z,hx⟩:∃ z,zs[i]?=some z:=⟨_,List.getElem?_eq_getElem (by rw [List.length_map] at hlen;omega)⟩
     obtain ⟨g,off,rfl,ht,hcl⟩:=HZ.out.cell i [.int .i64 z] (by rw [List.getElem?_map,hx];rfl);have hzc:=(FrT.mapped (seT_nb HB.out) HG.out).cell (by decide) ht (hcl 0 _ rfl);rw [show off+i*1+0=off+i by omega] at hzc;have hBc:=HG.out.cell HC.out ((seT_nb HB.out).not HC.out);have TK:=hZq (takeS_any z HN.out (HR.out z (List.mem_of_getElem? hx)));have HX:=hZq hx;clear ht hcl hx
     go_wp2_with fail
     refine TK.out.mono ?_;rintro en w2 ⟨rfl,hb2,hg2⟩;have HB2:=hZq hb2;have G2:=hZq (gZq HG.out hg2);clear hb2 hg2 TK hzc hBc
     by_cases hok:2<=z/\z<524287/\z ∉ S++zs.take i
     ·rw [if_pos hok] at HB2
      have HO:=hZq hok;rw [decide_eq_true hok];clear hok;go_wp2;go_roundw
      case rel =>
       have e:=takeS HX.out;refine ⟨i+1,by omega,by go_num,?_,?_,G2.out⟩
       ·rw [e,tkL_snoc,HS.out,decide_eq_true HO.out]
        rfl
       ·rw [e,<- List.append_assoc]
        exact HB2.out
      case measure=>simp [intOf];omega
     ·have HO:=hZq hok
      rw [decide_eq_false hok];clear hok;go_wp2;go_ret;refine ⟨⟨false,rfl,(fun e=>by cases e),fun h=>?_⟩,(fun e=>by cases e),G2.out⟩;have e:zs=zs.take i++z::zs.drop (i+1):=one_at HX.out;have h2:=h.2;rw [e,tkL_snoc,decide_eq_false HO.out] at h2;simp at h2
    ·have hin:i=cn:=by omega
     have ht:zs.take i=zs:=List.take_of_length_le (by have hl2:zs.length=cn:=(by simpa using hlen);omega);rw [ht] at HS HN;clear ht;go_wp2;go_ret;exact ⟨⟨true,rfl,(fun _=>⟨fun _=>HPG.out,HS.out⟩),fun _=>rfl⟩,fun _=>HN.out,HG.out⟩
  ·have hp':((cn:Int) != pgB vn)=true:=by simp [hpg]
   have HPG:=hZq hpg;clear hpg;go_enter Tryz.func133,Tryz.ntmps133;go_wp2
   go_quiet ((go_at_call 61;exact Calls.quiet_of_same (pagesB_any _ _)))
   go_wp2;go_ret;have g:=gZq G1.out ((Qt.drewN (w.alloc (.cells #[.slice ka kn kc,.slice va vn vc,.slice ca cn cc] 106)) nq).grown none);exact ⟨⟨false,rfl,(fun e=>by cases e),fun h=>absurd (h.1 hcn) HPG.out⟩,(fun e=>by cases e),grown_any g⟩
 ·have h0:¬ (0:Int)<(cn:Int):=by omega
  go_enter Tryz.func133,Tryz.ntmps133;go_wp2
  go_quiet ((go_at_call 61;exact Calls.quiet_of_same (pagesB_any _ _)))
  go_wp2;go_loopw [6,24] (fun _ si wr=>∃ i:Nat,i<=cn/\si=.int .i64 i/\tkL S (zs.take i)=true/\SeT wr b (S++zs.take i)/\w.grownBy wr (some b)) (fun _ si _=>cn - (intOf si).toNat)
  case atStart =>
   have g:=gZq G1.out ((Qt.drewN (w.alloc (.cells #[.slice ka kn kc,.slice va vn vc,.slice ca cn cc] 106)) nq).grown none);exact ⟨0,Nat.zero_le _,rfl,rfl,by simpa using HB.out.keptN g,grown_any g⟩
  case round =>
   obtain ⟨i,hi,rfl,hs,hb,hg⟩:=hrel;have HS:=hZq hs;have HN:=hZq hb;have HG:=hZq hg;clear hs hb hg
   by_cases hlt2:i<cn
   ·omega
   ·obtain rfl:zs=[]:=List.eq_nil_of_length_eq_zero (by have hl2:zs.length=cn:=(by simpa using hlen);omega)
    go_wp2;go_ret;exact ⟨⟨true,rfl,(fun _=>⟨fun h=>absurd h hcn,rfl⟩),fun _=>rfl⟩,fun _=>by simpa using HN.out,HG.out⟩
theorem zipR_len (ps:List (List Int × List Int))(cs:List (List Int)):(zipR ps cs).length=ps.length:=by simp [zipR]
theorem zipR_at {ps:List (List Int × List Int)}(cs:List (List Int)){i:Nat}{p:List Int × List Int}(h:ps[i]?=some p):(zipR ps cs)[i]?=some ⟨p.1,p.2,cs.getD i []⟩:=by
 have hl:=(List.getElem?_eq_some_iff.1 h).1;simp [zipR,List.getElem?_map,List.getElem?_range hl,List.getD,h]
structure PqC (no:Int)(p:PrT):Prop where
 vp:Vp p
 len:p.chain.length=0∨(p.chain.length:Int)=pgB p.val.length
 fr:no≠0->frP p=0
structure PoC (no:Int)(ps:List (List Int × List Int))(cs:List (List Int))(S:List Int):Prop where
 cl:cs.length=0∨cs.length=ps.length
 el:∀ p∈zipR ps cs,PqC no p
 tk:tkL S ((zipR ps cs).flatMap PrT.chain)=true
def PoX (w:World)(b pn:Nat)(no:Int)(ps:List (List Int × List Int))(cs:List (List Int))(S:List Int)(en:Ending)(w':World):Prop:=(∃ v f,en=.returned (.tuple #[v,.bool f])/\(f=true->∃ g,v=.slice (some ⟨g,0,none⟩) pn pn/\PsT w' (some ⟨g,0,none⟩) pn pn (zipR ps cs)/\PoC no ps cs S/\SeT w' b (S++(zipR ps cs).flatMap PrT.chain))/\(PoC no ps cs S->f=true))/\w.grownBy w' (some b)
theorem tkL_app:∀ (S A B:List Int),tkL S (A++B)=(tkL S A && tkL (S++A) B)
 | S,[],B=>by simp [tkL]
 | S,z::A,B=>by
  rw [List.cons_append,tkL,tkL,tkL_app (S++[z]) A B,Bool.and_assoc];simp
theorem poc_not {no:Int}{ps:List (List Int × List Int)}{cs:List (List Int)}{S:List Int}{k:Nat}{q:PrT}(h:PoC no ps cs S)(hq:(zipR ps cs)[k]?=some q):PqC no q/\tkL (S++((zipR ps cs).take k).flatMap PrT.chain) q.chain=true:=by
 refine ⟨h.el q (List.mem_of_getElem? hq),?_⟩;have h1:=h.tk;rw [one_at hq,List.flatMap_append,List.flatMap_cons,tkL_app,tkL_app,Bool.and_eq_true,Bool.and_eq_true] at h1;exact h1.2.1
theorem FlT.get {w:World}{g n k:Nat}{t:TypeId}{es:List (List Value)}(h:FlT w g n k t es){i f:Nat}{e:List Value}{v:Value}(he:es[i]?=some e)(hf:e[f]?=some v):w.cell? ⟨g,i*k+f,none⟩=some v:=by
 obtain ⟨cur,r1,r2,r3⟩:=h.row;rw [cell_of_row w g _ _ _ _ r1];exact r3 i e he f v hf
theorem FlT.put3 {w:World}{g n:Nat}{t:TypeId}{es:List (List Value)}{u v x:Value}(h:FlT w g n 3 t (es++[[u,v,x]]))(y:Value)(hy:y.oneCell'=true):FlT (setL w g (es.length*3+2) [y]) g n 3 t (es++[[u,v,y]]):=by
 obtain ⟨cur,r1,r2,r3⟩:=h.row
 have hb:es.length*3+2<cur.size:=by
  have:=r3 es.length [u,v,x] (by simp) 2 x rfl;exact (Array.getElem?_eq_some_iff.1 this).1
 refine ⟨⟨_,setL_heap [y] w _ _ r1,by rw [setA_size];exact r2,fun i e he f v' hf=>?_⟩,⟨fun e he=>?_,fun e he=>?_⟩⟩
 ·by_cases hi:i<es.length
  ·rw [List.getElem?_append_left hi] at he
   have h3:e.length=3:=h.wf.sz e (List.mem_append_left _ (List.mem_of_getElem? he));have hlt:=(List.getElem?_eq_some_iff.1 hf).1;rw [setA_other _ _ _ _ (by omega)];exact r3 i e (by rw [List.getElem?_append_left hi];exact he) f v' hf
  ·have hj:=(List.getElem?_eq_some_iff.1 he).1
   rw [List.length_append,List.length_singleton] at hj;obtain rfl:i=es.length:=by omega
   simp at he;subst he;have hlt:=(List.getElem?_eq_some_iff.1 hf).1
   by_cases h2:f=2
   ·subst h2
    have:v'=y:=by simpa using hf.symm
    subst this;exact setA_at [v'] cur (es.length*3+2) 0 v' rfl (by simp;omega)
   ·simp only [List.length_cons,List.length_nil] at hlt
    rw [setA_other _ _ _ _ (by omega)];refine r3 es.length [u,v,x] (by simp) f v' ?_;rcases (show f=0∨f=1 by omega) with rfl | rfl
    ·exact hf
    ·exact hf
 ·rcases List.mem_append.1 he with he | he
  ·exact h.wf.sz e (List.mem_append_left _ he)
  ·rw [List.mem_singleton.1 he];rfl
 ·rcases List.mem_append.1 he with he | he
  ·exact h.wf.one e (List.mem_append_left _ he)
  ·have h0:=h.wf.one [u,v,x] (by simp)
   rw [List.mem_singleton.1 he];intro q hq;simp only [List.mem_cons,List.not_mem_nil,or_false] at hq;rcases hq with rfl | rfl | rfl
   ·exact h0 _ (by simp)
   ·exact h0 _ (by simp)
   ·exact hy
theorem IpT.otherB {w w':World}{e:List Value}{p:PrT}{d:Nat}{u:TypeId}(h:IpT w e p)(hg:w.grownBy w' (some d))(hd:TgT w d u)(h1:5≠u)(h2:3≠u):IpT w' e p:=by
 obtain ⟨ka,kn,kc,va,vn,vc,ca,cn,cc,e1,q⟩:=h;exact ⟨ka,kn,kc,va,vn,vc,ca,cn,cc,e1,q.k.otherB hg hd h1,q.v.otherB hg hd h1,EsT.other q.c hg hd h2,q.z⟩
theorem info_tpairB:(Tryz.prog.info? 106).map (fun i=>(i.zero,i.size,i.bytes))=some (some (.agg #[.slice none 0 0,.slice none 0 0,.slice none 0 0]),3,72):=by kernel_rfl
theorem pairsX (B b:Nat)(no lv:Int)(pa:Option Addr)(pn pc:Nat)(ca:Option Addr)(cn cc:Nat)(sa:Option Addr)(sn sc:Nat)(ka:Option Addr)(kn kc:Nat)(ps:List (List Int × List Int))(cs:List (List Int))(S:List Int)(w:World)(hB:w.cell? ⟨B,1,none⟩=some (.map (some b)))(h:SeT w b S)(hp:RpU w pa pn pc ps)(hc:RcU w ca cn cc cs)(hn:pn<=2932031007402)
  (hs:∀ p∈ps,p.1.length<=140737488355328/\p.2.length<=140737488355328/\Bt p.1/\Bt p.2) (hz:∀ c∈cs,c.length<=17592186044416/\∀ z∈c,-9223372036854775808<=z/\z<=9223372036854775807) :
  Calls Tryz.prog 107 #[.pointer (some ⟨B,0,none⟩),.agg #[.int .i64 no,.int .i64 lv,.slice pa pn pc,.slice ca cn cc,.slice sa sn sc,.slice ka kn kc]] w fun en w'=>PoX w b pn no ps cs S en w':=by
 obtain ⟨i0,hi,hz0,hz1,hz2⟩:=info_parts info_tpairB;have hpl:=hp.len;have hcl:=hc.len;have GA:=hZq (World.grownBy_alloc w (.cells #[.int .i64 no,.int .i64 lv,.slice pa pn pc,.slice ca cn cc,.slice sa sn sc,.slice ka kn kc] 61) none);have HB:=hZq h;have HBc:=hZq hB;have HP:=hZq hp;have HC:=hZq hc;have HS:=hZq hs;have HZ:=hZq hz;have hBl:=cell_lt hB;clear h hB hp hc hs hz
 by_cases hbad:0<cn/\cn≠pn
 ·have h0:(0:Int)<(cn:Int):=by omega
  have h1:((cn:Int) != (pn:Int))=true:=by simp;omega
  go_enter Tryz.func107,Tryz.ntmps107;go_wp2
  go_ret2
  exact ⟨⟨_,false,rfl,(fun e=>by cases e),fun h=>by rcases h.cl with k | k <;> omega⟩,grown_any GA.out⟩
 ·by_cases hcn:0<cn
  ·have h0:(0:Int)<(cn:Int):=by omega
   have h1:((cn:Int) != (pn:Int))=false:=by simp;omega
   go_enter Tryz.func107,Tryz.ntmps107
   go_wp2_with (at_make;refine wpList_make_full _ rfl _ _ 107 rfl w.heap.size 106 i0 (.agg #[.slice none 0 0,.slice none 0 0,.slice none 0 0]) 3 Tryz.underlying107 hi hz0 hz1 _ _ _ _ pn rfl rfl rfl rfl ?b2 ?b3 ?b4 ?_)
   case b2=>rw [hz2];omega
   case b3=>unfold maxLen;omega
   case b4=>exact GA.out.size
   intro w0 hown0 hgrow0;have F0:=FlT.start hown0;have G0:=gZq GA.out hgrow0
   have hrow:w0.heap[w.heap.size]?=some (.cells #[.int .i64 no,.int .i64 lv,.slice pa pn pc,.slice ca cn cc,.slice sa sn sc,.slice ka kn kc] 61 (0,0)):=by
    have:=heap_alloc_new w (.cells #[.int .i64 no,.int .i64 lv,.slice pa pn pc,.slice ca cn cc,.slice sa sn sc,.slice ka kn kc] 61);rw [hgrow0.block _ (by simp) (by simp)];exact this
   have HR:Hid (w0.heap[w.heap.size]?=some (.cells #[.int .i64 no,.int .i64 lv,.slice pa pn pc,.slice ca cn cc,.slice sa sn sc,.slice ka kn kc] 61 (0,0))):=hrow;have F0:=hZq F0;have G0:=hZq G0;have hP:w.heap.size<=w.heap.size+1:=by omega
   clear hown0 hgrow0 hrow;generalize w.heap.size+1=P at *;have x2:w0.cell? ⟨w.heap.size,2,none⟩=some (.slice pa pn pc):=cell_of_row w0 _ 2 _ _ (0,0) HR.out
   go_wp2_with fail
   clear x2;go_loopw [7,8,29] (fun _ _ si wr=>∃ (k:Nat) (es:List (List Value)),k<=pn/\si=.int .i64 (k:Nat)/\es.length=k/\FlT wr P pn 3 106 es/\ElyT (IpT wr) es ((zipR ps cs).take k)/\(∀ p∈(zipR ps cs).take k,PqC no p)/\tkL S (((zipR ps cs).take k).flatMap PrT.chain)=true/\SeT wr b (S++((zipR ps cs).take k).flatMap PrT.chain)/\wr.heap[w.heap.size]?=some (.cells #[.int .i64 no,.int .i64 lv,.slice pa pn pc,.slice ca cn cc,.slice sa sn sc,.slice ka kn kc] 61 (0,0))/\w.grownBy wr (some b)) (fun _ _ si _=>pn - (intOf si).toNat)
   case atStart=>exact ⟨0,[],Nat.zero_le _,rfl,rfl,F0.out,by rw [List.take_zero];exact ElyT.nil,(fun p hp=>by simp at hp),rfl,by simpa using HB.out.keptN G0.out,HR.out,grown_any G0.out⟩
   case round =>
    obtain ⟨k,es,hk,rfl,hes,hfl,hel,hv,htk,hnb,hrow,hg⟩:=hrel;have HTK:=hZq htk;have HF:=hZq hfl;have HE:=hZq hel;have HV:=hZq hv;have HN:=hZq hnb;have HW:=hZq hrow;have HG:=hZq hg;clear hfl hel hv htk hnb hrow hg F0 G0 HR
    by_cases hlt:k<pn
    ·have i1:(k:Int)<(pn:Int):=by omega
     have i00:(0:Int)<=(k:Int):=by omega
     obtain ⟨p,hx⟩:∃ p,ps[k]?=some p:=⟨_,List.getElem?_eq_getElem (by omega)⟩;obtain ⟨g,off,qa,qn,qc,va,vn,vc,rfl,c0,c1,k1,k2⟩:=(HP.out.kept (CkF.mapped (seT_nb HB.out) HG.out)).pair hx;have hq9:=HS.out p (List.mem_of_getElem? hx);have HX:=hZq hx;have K1:=hZq k1;have K2:=hZq k2;have l1:=k1.b.len;have l2:=k2.b.len;clear hx k1 k2;go_upto_region 7 with fail
     have ga:=World.grownBy_alloc wr (.cells #[.slice qa qn qc,.slice va vn vc] 64) none;have HF2:=hZq (HF.out.keptN ga);have K12:=hZq (K1.out.kept (CkF.of ga));have K22:=hZq (K2.out.kept (CkF.of ga));have HN2:=hZq (HN.out.keptN ga);have HE2:=hZq (HE.out.mono fun e x q=>q.kept (FrT.of ga));have HW2:=hZq ((ga.block _ (Array.getElem?_eq_some_iff.1 HW.out).1 (by simp)).trans HW.out);have HG2:=hZq (gZq HG.out (grown_any ga));have hrow:=heap_alloc_new wr (.cells #[.slice qa qn qc,.slice va vn vc] 64);clear ga HF K1 K2 HN HE HW HG c0 c1;generalize wr.alloc (.cells #[.slice qa qn qc,.slice va vn vc] 64)=W2 at *;generalize wr.heap.size=D at *;have e0:W2.cell? ⟨D,0,none⟩=some (.slice qa qn qc):=cell_of_row W2 D 0 _ _ (0,0) hrow;have e1:W2.cell? ⟨D,1,none⟩=some (.slice va vn vc):=cell_of_row W2 D 1 _ _ (0,0) hrow;have HD:Hid (TgT W2 D 64):=⟨_,_,hrow⟩;clear hrow;go_cut [] from 34 to 43 (fun wx=>Po7 W2 P pn es qn vn p.1 p.2 wx)
     case first =>
      rename_i J K' hJ hM;refine po7 HF2 hes hlt K12 K22 e0 e1 (by omega) (by omega) HD.out ?_;intro _ _ _ _ _ _ _ _ _ _ wx hrl;refine hM _ _ ?_;go_meet;exact hrl
     case rest =>
      obtain ⟨a5,c5,a6,c6,hf3,b5,b6,hg3⟩:=hcut;have tP:=HF2.out.tg;have nD:D≠P:=tg_ne HD.out tP (by decide);have d0:=hg3.cell e0 (by simpa using nD);have d1:=hg3.cell e1 (by simpa using nD);have nW:w.heap.size≠P:=tg_ne ⟨_,_,HW2.out⟩ tP (by decide);have HW3:=hZq ((hg3.block _ (Array.getElem?_eq_some_iff.1 HW2.out).1 (by simpa using nW)).trans HW2.out);have HE3:=hZq (HE2.out.mono fun e x q=>q.otherB hg3 tP (by decide) (by decide))
      have nb:some b≠some P:=by
       obtain ⟨⟨v,q⟩,_⟩:=HF2.out.cell (j:=0) (by omega);exact fun e=>HN2.out.not q e.symm
      have HN3:=hZq (HN2.out.kept hg3 nb);have HG3:=hZq (grown_newR HG2.out hg3 hP);have hek:(es++[[Value.slice a5 qn c5,Value.slice a6 vn c6,Value.slice none 0 0]])[k]?=some [.slice a5 qn c5,.slice a6 vn c6,.slice none 0 0]:=by rw [List.getElem?_append_right (by omega),hes,Nat.sub_self];rfl
      have f0:=hf3.get hek (f:=0) rfl;have f1:=hf3.get hek (f:=1) rfl;have f2:=hf3.get hek (f:=2) rfl;rw [Nat.add_zero] at f0;have HF3:=hZq hf3;have B5:=hZq b5;have B6:=hZq b6;have x0:wc.cell? ⟨w.heap.size,0,none⟩=some (.int .i64 no):=cell_of_row wc _ 0 _ _ (0,0) HW3.out;have x3:wc.cell? ⟨w.heap.size,3,none⟩=some (.slice ca cn cc):=cell_of_row wc _ 3 _ _ (0,0) HW3.out;obtain ⟨zs,hxc⟩:∃ zs,cs[k]?=some zs:=⟨_,List.getElem?_eq_getElem (by omega)⟩;obtain ⟨gc,offc,xo,xn,xd,rfl,cc0,hxn⟩:=(HC.out.kept (CkF.mapped (seT_nb HB.out) HG3.out)).chain hxc;have hz9:=HZ.out zs (List.mem_of_getElem? hxc);have hzl:zs.length=xn:=by have:=hxn.len;simpa using this
      have i2:(k:Int)<(cn:Int):=by omega
      have ez:cs.getD k []=zs:=by simp [List.getD,hxc]
      have IC:=hZq (iclone_z xo xn xd zs wc hxn (by omega));clear hf3 b5 b6 hg3 HF2 K12 K22 HN2 HE2 HW2 HG2 e0 e1 HD tP hek hxn hxc f2
      go_wp2_with fail
      refine IC.out.mono ?_;rintro en w7 ⟨a7,c7,rfl,n7,hg7,z7⟩;have HZ7:=hZq z7;have hF7:=HF3.out.keptN hg7;obtain ⟨⟨q2,r2⟩,z2⟩:=hF7.cell (j:=k*3+2) (by omega);have HF7:=hZq hF7;have N7:=hZq n7;have G7:=hZq hg7;clear hF7 n7 hg7 z7 IC;go_upto_region 10 with fail
      have t7:=HF7.out.tg;have hs7:=setL_grown (g:=P) [.slice a7 xn c7] w7 (k*3+2);have hp7:=HF7.out.put3 (.slice a7 xn c7) rfl;rw [hes] at hp7;have hg8:wc.grownBy (setL w7 P (k*3+2) [.slice a7 xn c7]) (some P):=gZq (grown_any G7.out) hs7;have m7:NmT (setL w7 P (k*3+2) [.slice a7 xn c7]) a7 xn c7 zs:=EsT.other N7.out hs7 t7 (by decide);have m5:=(B5.out.kept (FrT.of G7.out)).otherB hs7 t7 (by decide);have m6:=(B6.out.kept (FrT.of G7.out)).otherB hs7 t7 (by decide);have mE:=HE3.out.mono fun e x q=>(q.kept (FrT.of G7.out)).otherB hs7 t7 (by decide) (by decide)
      have mN:=HN3.out.kept hg8 nb;have mG:=grown_newR HG3.out hg8 hP;have mW:=(hg8.block _ (Array.getElem?_eq_some_iff.1 HW3.out).1 (by simpa using nW)).trans HW3.out;have md0:=hg8.cell d0 (by simpa using nD);have md1:=hg8.cell d1 (by simpa using nD);have eW:(w7.setCell ⟨P,k*3+2,none⟩ (.slice a7 xn c7))=setL w7 P (k*3+2) [.slice a7 xn c7]:=rfl;rw [eW];clear eW hs7 hg8 G7 N7 HF7 t7 B5 B6 HE3 HN3 HG3 HW3 d0 d1 f0 f1 x0 x3 HF3 q2 r2 z2 nW nD cc0;generalize setL w7 P (k*3+2) [.slice a7 xn c7]=wd at *;have hek:(es++[[Value.slice a5 qn c5,Value.slice a6 vn c6,Value.slice a7 xn c7]])[k]?=some [.slice a5 qn c5,.slice a6 vn c6,.slice a7 xn c7]:=by rw [List.getElem?_append_right (by omega),hes,Nat.sub_self];rfl
      have f0:=hp7.get hek (f:=0) rfl;have f1:=hp7.get hek (f:=1) rfl;have f2:=hp7.get hek (f:=2) rfl;rw [Nat.add_zero] at f0;have HF3:=hZq hp7;have B5:=hZq m5;have B6:=hZq m6;have M7:=hZq m7;have HE3:=hZq mE;have HN3:=hZq mN;have HG3:=hZq mG;have HW3:=hZq mW;have d0:=md0;have d1:=md1;have x0:wd.cell? ⟨w.heap.size,0,none⟩=some (.int .i64 no):=cell_of_row wd _ 0 _ _ (0,0) HW3.out;have hBc:=HG3.out.cell HBc.out (HB.out.not HBc.out);have TK:=hZq (takeChainX B b a5 qn c5 a6 vn c6 a7 xn c7 zs (S++((zipR ps cs).take k).flatMap PrT.chain) wd hBc HN3.out M7.out hz9.2);clear hp7 m5 m6 m7 mE mN mG mW md0 md1 hek hBc;cases hvd:valid qn with
      | false =>
       go_wp2_with (go_at_call 52;refine (valid_any _ _ _ _).mono ?_;rintro en w4 ⟨rfl,rfl⟩;rw [hvd])
       go_ret2
       exact ⟨⟨_,false,rfl,(fun e=>by cases e),fun h=>(by have h8:=(poc_not h (zipR_at cs HX.out)).1.vp;have h9:=h8.k1;have h10:=h8.k2;have h11:=h8.v1;simp only at h9 h10 h11;simp [valid] at hvd;omega)⟩,HG3.out⟩
      | true =>
       by_cases hvl:262144<vn
       ·have hv2:(262144:Int)<(vn:Int):=by omega
        go_wp2_with (go_at_call 52;refine (valid_any _ _ _ _).mono ?_;rintro en w4 ⟨rfl,rfl⟩;rw [hvd])
        go_ret2
        exact ⟨⟨_,false,rfl,(fun e=>by cases e),fun h=>(by have h8:=(poc_not h (zipR_at cs HX.out)).1.vp;have h9:=h8.k1;have h10:=h8.k2;have h11:=h8.v1;simp only at h9 h10 h11;omega)⟩,HG3.out⟩
       ·have hv2:¬ (262144:Int)<(vn:Int):=by omega
        go_wp2_with (go_at_call 52;refine (valid_any _ _ _ _).mono ?_;rintro en w4 ⟨rfl,rfl⟩;rw [hvd])
        refine TK.out.mono ?_;rintro en w4 ⟨⟨f,rfl,hf,hf2⟩,hb4,hg4⟩;have hvd2:1<=qn/\qn<=255:=by simpa [valid] using hvd
        have HFF:=hZq hf;have HFG:=hZq hf2;have hFr:=FrT.mapped (seT_nb HN3.out) hg4;have HB4:=hZq hb4;have HF4:=hZq (HF3.out.other hg4 (fun e=>nb (by rw [e])));have HG4:=hZq (gZq HG3.out hg4);have HE4:=hZq (HE3.out.mono fun e x q=>q.kept hFr);have B54:=hZq (B5.out.kept hFr);have B64:=hZq (B6.out.kept hFr);have M74:=hZq (EsT.kept M7.out (by decide) hFr);have y0:=hg4.cell x0 (HN3.out.not x0);have HW4:=hZq ((hg4.block _ (Array.getElem?_eq_some_iff.1 HW3.out).1 (HN3.out.not x0)).trans HW3.out);have j0:=hg4.cell f0 nb.symm;have j1:=hg4.cell f1 nb.symm;have j2:=hg4.cell f2 nb.symm;have FR:=hZq (fresh_any a5 qn c5 a6 vn c6 a7 xn c7 w4);clear hFr hb4 hg4 hf hf2 TK HF3 HG3 HE3 B5 B6 M7 x0 HW3 f0 f1 f2 d0 d1 HN3 nb;cases f with
        | false =>
         go_wp2
         go_ret2
         exact ⟨⟨_,false,rfl,(fun e=>by cases e),fun h=>(by have h8:=poc_not h (zipR_at cs HX.out);rw [ez] at h8;have h9:=h8.1.len;simp only at h9;rw [l2,hzl] at h9;exact HFG.out ⟨fun h0=>(by rcases h9 with h9 | h9 <;> omega),h8.2⟩)⟩,HG4.out⟩
        | true =>
         have HB9:=HB4.out rfl;clear HB4;have HB4:=hZq HB9;clear HB9
         by_cases hno:no=0
         ·have hn':(no != 0)=false:=by simp [hno]
          have HNO:=hZq hno;clear hno;go_wp2;go_roundw
          case rel =>
           refine ⟨k+1,_,by omega,by go_num,by simp [hes],HF4.out,?_,?_,?_,?_,HW4.out,HG4.out⟩
           ·rw [takeS (zipR_at cs HX.out),ez]
            exact (HE4.out).app (ElyT.one ⟨a5,qn,c5,a6,vn,c6,a7,xn,c7,rfl,B54.out,B64.out,M74.out,HZ7.out⟩)
           ·rw [takeS (zipR_at cs HX.out),ez]
            intro q hq;rcases List.mem_append.1 hq with hq | hq
            ·exact HV.out q hq
            ·rw [List.mem_singleton.1 hq]
             exact ⟨⟨by simp only;omega,by simp only;omega,by simp only;omega,hq9.2.2.1,hq9.2.2.2⟩,(by have h9:=(HFF.out trivial).1;simp only [hzl,l2];omega),(fun h0=>absurd HNO.out h0)⟩
           ·rw [takeS (zipR_at cs HX.out),ez,List.flatMap_append,tkL_app,HTK.out,Bool.true_and]
            show tkL _ (zs++[])=true
            rw [List.append_nil];exact (HFF.out trivial).2
           ·rw [takeS (zipR_at cs HX.out),ez,List.flatMap_append,<- List.append_assoc]
            show SeT _ b (_++(zs++[]))
            rw [List.append_nil];exact HB4.out
          case measure=>simp [intOf];omega
         ·have hn':(no != 0)=true:=by simp [hno]
          go_wp2_with fail
          refine FR.out.mono ?_;rintro en w5 ⟨rfl,hg5⟩;have HB5:=hZq (HB4.out.keptN hg5);have GF5:=hZq (FrT.of hg5);have HG5:=hZq (gZq HG4.out (grown_any hg5));have HF5:=hZq (HF4.out.keptN hg5);have HE5:=hZq (HE4.out.mono fun e x q=>q.kept (FrT.of hg5));have B55:=hZq (B54.out.kept (FrT.of hg5));have B65:=hZq (B64.out.kept (FrT.of hg5));have HW5:=hZq ((hg5.block _ (Array.getElem?_eq_some_iff.1 HW4.out).1 (by simp)).trans HW4.out);clear hg5 FR HB4 HG4 HF4 HE4 B54 B64 HW4 y0 j0 j1 j2;have M75:=hZq (EsT.kept M74.out (by decide) GF5.out)
          have HZZ:Hid ((if 0<xn then (0:Int) else pgB vn)=(frP ⟨p.1,p.2,zs⟩:Int)):=by
           show _=_
           unfold frP;simp only [hzl,l2];have:=pgB_le vn
           by_cases h9:0<xn
           ·rw [if_pos h9,if_neg (by omega)]
            rfl
           ·rw [if_neg h9,if_pos (by omega)]
            omega
          generalize (if 0<xn then (0:Int) else pgB vn)=zz at *
          by_cases hfr:0<zz
          ·go_wp2
           go_ret2
           exact ⟨⟨_,false,rfl,(fun e=>by cases e),fun h=>(by have h8:=(poc_not h (zipR_at cs HX.out)).1.fr hno;rw [ez] at h8;have h9:=HZZ.out;omega)⟩,HG5.out⟩
          ·go_wp2
           go_roundw
           case rel =>
            refine ⟨k+1,_,by omega,by go_num,by simp [hes],HF5.out,?_,?_,?_,?_,HW5.out,HG5.out⟩
            ·rw [takeS (zipR_at cs HX.out),ez]
             exact (HE5.out).app (ElyT.one ⟨a5,qn,c5,a6,vn,c6,a7,xn,c7,rfl,B55.out,B65.out,M75.out,HZ7.out⟩)
            ·rw [takeS (zipR_at cs HX.out),ez]
             intro q hq;rcases List.mem_append.1 hq with hq | hq
             ·exact HV.out q hq
             ·rw [List.mem_singleton.1 hq]
              exact ⟨⟨by simp only;omega,by simp only;omega,by simp only;omega,hq9.2.2.1,hq9.2.2.2⟩,(by have h9:=(HFF.out trivial).1;simp only [hzl,l2];omega),(fun _=>(by have h9:=HZZ.out;omega))⟩
            ·rw [takeS (zipR_at cs HX.out),ez,List.flatMap_append,tkL_app,HTK.out,Bool.true_and]
             show tkL _ (zs++[])=true
             rw [List.append_nil];exact (HFF.out trivial).2
            ·rw [takeS (zipR_at cs HX.out),ez,List.flatMap_append,<- List.append_assoc]
             show SeT _ b (_++(zs++[]))
             rw [List.append_nil];exact HB5.out
           case measure=>simp [intOf];omega
    ·go_wp2_with fail
     go_ret2
     have et:(zipR ps cs).take k=zipR ps cs:=List.take_of_length_le (by rw [zipR_len];omega);have he':=HE.out;have hv':=HV.out;have ht':=HTK.out;have hn':=HN.out;rw [et] at he' hv' ht' hn';exact ⟨⟨_,true,rfl,(fun _=>⟨P,rfl,⟨es,HF.out.es (by omega) (by omega),he'⟩,⟨.inr (by omega),hv',ht'⟩,hn'⟩),fun _=>rfl⟩,HG.out⟩
  ·have h0:¬ (0:Int)<(cn:Int):=by omega
   go_enter Tryz.func107,Tryz.ntmps107
   go_wp2_with (at_make;refine wpList_make_full _ rfl _ _ 107 rfl w.heap.size 106 i0 (.agg #[.slice none 0 0,.slice none 0 0,.slice none 0 0]) 3 Tryz.underlying107 hi hz0 hz1 _ _ _ _ pn rfl rfl rfl rfl ?b2 ?b3 ?b4 ?_)
   case b2=>omega
   case b3=>unfold maxLen;omega
   intro w0 hown0 hgrow0;have F0:=FlT.start hown0;have G0:=gZq GA.out hgrow0
   have hrow:w0.heap[w.heap.size]?=some (.cells #[.int .i64 no,.int .i64 lv,.slice pa pn pc,.slice ca cn cc,.slice sa sn sc,.slice ka kn kc] 61 (0,0)):=by
    have:=heap_alloc_new w (.cells #[.int .i64 no,.int .i64 lv,.slice pa pn pc,.slice ca cn cc,.slice sa sn sc,.slice ka kn kc] 61);rw [hgrow0.block _ (by simp) (by simp)];exact this
   have HR:Hid (w0.heap[w.heap.size]?=some (.cells #[.int .i64 no,.int .i64 lv,.slice pa pn pc,.slice ca cn cc,.slice sa sn sc,.slice ka kn kc] 61 (0,0))):=hrow;have F0:=hZq F0;have G0:=hZq G0;have hP:w.heap.size<=w.heap.size+1:=by omega
   clear hown0 hgrow0 hrow;generalize w.heap.size+1=P at *;have x2:w0.cell? ⟨w.heap.size,2,none⟩=some (.slice pa pn pc):=cell_of_row w0 _ 2 _ _ (0,0) HR.out
   go_wp2_with fail
   clear x2;go_loopw [7,8,29] (fun _ _ si wr=>∃ (k:Nat) (es:List (List Value)),k<=pn/\si=.int .i64 (k:Nat)/\es.length=k/\FlT wr P pn 3 106 es/\ElyT (IpT wr) es ((zipR ps cs).take k)/\(∀ p∈(zipR ps cs).take k,PqC no p)/\tkL S (((zipR ps cs).take k).flatMap PrT.chain)=true/\SeT wr b (S++((zipR ps cs).take k).flatMap PrT.chain)/\wr.heap[w.heap.size]?=some (.cells #[.int .i64 no,.int .i64 lv,.slice pa pn pc,.slice ca cn cc,.slice sa sn sc,.slice ka kn kc] 61 (0,0))/\w.grownBy wr (some b)) (fun _ _ si _=>pn - (intOf si).toNat)
   case atStart=>exact ⟨0,[],Nat.zero_le _,rfl,rfl,F0.out,by rw [List.take_zero];exact ElyT.nil,(fun p hp=>by simp at hp),rfl,by simpa using HB.out.keptN G0.out,HR.out,grown_any G0.out⟩
   case round =>
    obtain ⟨k,es,hk,rfl,hes,hfl,hel,hv,htk,hnb,hrow,hg⟩:=hrel;have HTK:=hZq htk;have HF:=hZq hfl;have HE:=hZq hel;have HV:=hZq hv;have HN:=hZq hnb;have HW:=hZq hrow;have HG:=hZq hg;clear hfl hel hv htk hnb hrow hg F0 G0 HR
    by_cases hlt:k<pn
    ·have i1:(k:Int)<(pn:Int):=by omega
     have i00:(0:Int)<=(k:Int):=by omega
     obtain ⟨p,hx⟩:∃ p,ps[k]?=some p:=⟨_,List.getElem?_eq_getElem (by omega)⟩;obtain ⟨g,off,qa,qn,qc,va,vn,vc,rfl,c0,c1,k1,k2⟩:=(HP.out.kept (CkF.mapped (seT_nb HB.out) HG.out)).pair hx;have hq9:=HS.out p (List.mem_of_getElem? hx);have HX:=hZq hx;have K1:=hZq k1;have K2:=hZq k2;have l1:=k1.b.len;have l2:=k2.b.len;clear hx k1 k2;go_upto_region 7 with fail
     have ga:=World.grownBy_alloc wr (.cells #[.slice qa qn qc,.slice va vn vc] 64) none;have HF2:=hZq (HF.out.keptN ga);have K12:=hZq (K1.out.kept (CkF.of ga));have K22:=hZq (K2.out.kept (CkF.of ga));have HN2:=hZq (HN.out.keptN ga);have HE2:=hZq (HE.out.mono fun e x q=>q.kept (FrT.of ga));have HW2:=hZq ((ga.block _ (Array.getElem?_eq_some_iff.1 HW.out).1 (by simp)).trans HW.out);have HG2:=hZq (gZq HG.out (grown_any ga));have hrow:=heap_alloc_new wr (.cells #[.slice qa qn qc,.slice va vn vc] 64);clear ga HF K1 K2 HN HE HW HG c0 c1;generalize wr.alloc (.cells #[.slice qa qn qc,.slice va vn vc] 64)=W2 at *;generalize wr.heap.size=D at *;have e0:W2.cell? ⟨D,0,none⟩=some (.slice qa qn qc):=cell_of_row W2 D 0 _ _ (0,0) hrow;have e1:W2.cell? ⟨D,1,none⟩=some (.slice va vn vc):=cell_of_row W2 D 1 _ _ (0,0) hrow;have HD:Hid (TgT W2 D 64):=⟨_,_,hrow⟩;clear hrow;go_cut [] from 34 to 43 (fun wx=>Po7 W2 P pn es qn vn p.1 p.2 wx)
     case first =>
      rename_i J K' hJ hM;refine po7 HF2 hes hlt K12 K22 e0 e1 (by omega) (by omega) HD.out ?_;intro _ _ _ _ _ _ _ _ _ _ wx hrl;refine hM _ _ ?_;go_meet;exact hrl
     case rest =>
      obtain ⟨a5,c5,a6,c6,hf3,b5,b6,hg3⟩:=hcut;have tP:=HF2.out.tg;have nD:D≠P:=tg_ne HD.out tP (by decide);have d0:=hg3.cell e0 (by simpa using nD);have d1:=hg3.cell e1 (by simpa using nD);have nW:w.heap.size≠P:=tg_ne ⟨_,_,HW2.out⟩ tP (by decide);have HW3:=hZq ((hg3.block _ (Array.getElem?_eq_some_iff.1 HW2.out).1 (by simpa using nW)).trans HW2.out);have HE3:=hZq (HE2.out.mono fun e x q=>q.otherB hg3 tP (by decide) (by decide))
      have nb:some b≠some P:=by
       obtain ⟨⟨v,q⟩,_⟩:=HF2.out.cell (j:=0) (by omega);exact fun e=>HN2.out.not q e.symm
      have HN3:=hZq (HN2.out.kept hg3 nb);have HG3:=hZq (grown_newR HG2.out hg3 hP);have hek:(es++[[Value.slice a5 qn c5,Value.slice a6 vn c6,Value.slice none 0 0]])[k]?=some [.slice a5 qn c5,.slice a6 vn c6,.slice none 0 0]:=by rw [List.getElem?_append_right (by omega),hes,Nat.sub_self];rfl
      have f0:=hf3.get hek (f:=0) rfl;have f1:=hf3.get hek (f:=1) rfl;have f2:=hf3.get hek (f:=2) rfl;rw [Nat.add_zero] at f0;have HF3:=hZq hf3;have B5:=hZq b5;have B6:=hZq b6;have x0:wc.cell? ⟨w.heap.size,0,none⟩=some (.int .i64 no):=cell_of_row wc _ 0 _ _ (0,0) HW3.out;have x3:wc.cell? ⟨w.heap.size,3,none⟩=some (.slice ca cn cc):=cell_of_row wc _ 3 _ _ (0,0) HW3.out;have hBc:=HG3.out.cell HBc.out (HB.out.not HBc.out);have TK:=hZq (takeChainX B b a5 qn c5 a6 vn c6 none 0 0 [] (S++((zipR ps cs).take k).flatMap PrT.chain) wc hBc HN3.out (EsT.nul wc 3 1) (fun z hz=>by simp at hz));clear hf3 b5 b6 hg3 HF2 K12 K22 HN2 HE2 HW2 HG2 e0 e1 HD tP nD nW hek hBc;cases hvd:valid qn with
      | false =>
       go_wp2_with (go_at_call 52;refine (valid_any _ _ _ _).mono ?_;rintro en w4 ⟨rfl,rfl⟩;rw [hvd])
       go_ret2
       exact ⟨⟨_,false,rfl,(fun e=>by cases e),fun h=>(by have h8:=(poc_not h (zipR_at cs HX.out)).1.vp;have h9:=h8.k1;have h10:=h8.k2;have h11:=h8.v1;simp only at h9 h10 h11;simp [valid] at hvd;omega)⟩,HG3.out⟩
      | true =>
       by_cases hvl:262144<vn
       ·have hv2:(262144:Int)<(vn:Int):=by omega
        go_wp2_with (go_at_call 52;refine (valid_any _ _ _ _).mono ?_;rintro en w4 ⟨rfl,rfl⟩;rw [hvd])
        go_ret2
        exact ⟨⟨_,false,rfl,(fun e=>by cases e),fun h=>(by have h8:=(poc_not h (zipR_at cs HX.out)).1.vp;have h9:=h8.k1;have h10:=h8.k2;have h11:=h8.v1;simp only at h9 h10 h11;omega)⟩,HG3.out⟩
       ·have hv2:¬ (262144:Int)<(vn:Int):=by omega
        go_wp2_with (go_at_call 52;refine (valid_any _ _ _ _).mono ?_;rintro en w4 ⟨rfl,rfl⟩;rw [hvd])
        refine TK.out.mono ?_;rintro en w4 ⟨⟨f,rfl,hf,hf2⟩,hb4,hg4⟩;have HFF:=hZq hf;have HFG:=hZq hf2;have hvd2:1<=qn/\qn<=255:=by simpa [valid] using hvd
        have ez:cs.getD k []=[]:=by
         have:cs=[]:=List.eq_nil_of_length_eq_zero (by omega);rw [this];rfl
        have hFr:=FrT.mapped (seT_nb HN3.out) hg4;have HB4:=hZq hb4;have HF4:=hZq (HF3.out.other hg4 (fun e=>nb (by rw [e])));have HG4:=hZq (gZq HG3.out hg4);have HE4:=hZq (HE3.out.mono fun e x q=>q.kept hFr);have B54:=hZq (B5.out.kept hFr);have B64:=hZq (B6.out.kept hFr);have y0:=hg4.cell x0 (HN3.out.not x0);have HW4:=hZq ((hg4.block _ (Array.getElem?_eq_some_iff.1 HW3.out).1 (HN3.out.not x0)).trans HW3.out);have j0:=hg4.cell f0 nb.symm;have j1:=hg4.cell f1 nb.symm;have j2:=hg4.cell f2 nb.symm;have FR:=hZq (fresh_any a5 qn c5 a6 vn c6 none 0 0 w4);clear hFr hb4 hg4 hf hf2 TK HF3 HG3 HE3 B5 B6 x0 x3 HW3 f0 f1 f2 d0 d1 HN3 nb;cases f with
        | false =>
         go_wp2
         go_ret2
         exact ⟨⟨_,false,rfl,(fun e=>by cases e),fun _=>HFG.out ⟨fun h0=>absurd h0 (by omega),rfl⟩⟩,HG4.out⟩
        | true =>
         have HB9:=HB4.out rfl;clear HB4;have HB4:=hZq HB9;clear HB9
         by_cases hno:no=0
         ·have hn':(no != 0)=false:=by simp [hno]
          have HNO:=hZq hno;clear hno;go_wp2;go_roundw
          case rel =>
           refine ⟨k+1,_,by omega,by go_num,by simp [hes],HF4.out,?_,?_,?_,?_,HW4.out,HG4.out⟩
           ·rw [takeS (zipR_at cs HX.out),ez]
            exact (HE4.out).app (ElyT.one ⟨a5,qn,c5,a6,vn,c6,none,0,0,rfl,B54.out,B64.out,EsT.nul _ _ _,fun _=>rfl⟩)
           ·rw [takeS (zipR_at cs HX.out),ez]
            intro q hq;rcases List.mem_append.1 hq with hq | hq
            ·exact HV.out q hq
            ·rw [List.mem_singleton.1 hq]
             exact ⟨⟨by simp only;omega,by simp only;omega,by simp only;omega,hq9.2.2.1,hq9.2.2.2⟩,(.inl rfl),(fun h0=>absurd HNO.out h0)⟩
           ·rw [takeS (zipR_at cs HX.out),ez,List.flatMap_append,tkL_app,HTK.out,Bool.true_and]
            show tkL _ (([]:List Int)++[])=true
            rw [List.append_nil];exact (HFF.out trivial).2
           ·rw [takeS (zipR_at cs HX.out),ez,List.flatMap_append,<- List.append_assoc]
            show SeT _ b (_++(([]:List Int)++[]))
            rw [List.append_nil];exact HB4.out
          case measure=>simp [intOf];omega
         ·have hn':(no != 0)=true:=by simp [hno]
          go_wp2_with fail
          refine FR.out.mono ?_;rintro en w5 ⟨rfl,hg5⟩;have HB5:=hZq (HB4.out.keptN hg5);have HG5:=hZq (gZq HG4.out (grown_any hg5));have HF5:=hZq (HF4.out.keptN hg5);have HE5:=hZq (HE4.out.mono fun e x q=>q.kept (FrT.of hg5));have B55:=hZq (B54.out.kept (FrT.of hg5));have B65:=hZq (B64.out.kept (FrT.of hg5));have HW5:=hZq ((hg5.block _ (Array.getElem?_eq_some_iff.1 HW4.out).1 (by simp)).trans HW4.out);clear hg5 FR HB4 HG4 HF4 HE4 B54 B64 HW4 y0 j0 j1 j2;rw [if_neg (by omega)]
          by_cases hfr:0<pgB vn
          ·go_wp2
           go_ret2
           exact ⟨⟨_,false,rfl,(fun e=>by cases e),fun h=>(by have h8:=(poc_not h (zipR_at cs HX.out)).1.fr hno;rw [ez] at h8;unfold frP at h8;simp only [List.length_nil,if_true,l2] at h8;omega)⟩,HG5.out⟩
          ·go_wp2
           go_roundw
           case rel =>
            refine ⟨k+1,_,by omega,by go_num,by simp [hes],HF5.out,?_,?_,?_,?_,HW5.out,HG5.out⟩
            ·rw [takeS (zipR_at cs HX.out),ez]
             exact (HE5.out).app (ElyT.one ⟨a5,qn,c5,a6,vn,c6,none,0,0,rfl,B55.out,B65.out,EsT.nul _ _ _,fun _=>rfl⟩)
            ·rw [takeS (zipR_at cs HX.out),ez]
             intro q hq;rcases List.mem_append.1 hq with hq | hq
             ·exact HV.out q hq
             ·rw [List.mem_singleton.1 hq]
              exact ⟨⟨by simp only;omega,by simp only;omega,by simp only;omega,hq9.2.2.1,hq9.2.2.2⟩,(.inl rfl),(fun _=>(by unfold frP;simp only [List.length_nil,if_true,l2];have:=pgB_le vn;omega))⟩
            ·rw [takeS (zipR_at cs HX.out),ez,List.flatMap_append,tkL_app,HTK.out,Bool.true_and]
             show tkL _ (([]:List Int)++[])=true
             rw [List.append_nil];exact (HFF.out trivial).2
            ·rw [takeS (zipR_at cs HX.out),ez,List.flatMap_append,<- List.append_assoc]
             show SeT _ b (_++(([]:List Int)++[]))
             rw [List.append_nil];exact HB5.out
           case measure=>simp [intOf];omega
    ·go_wp2_with fail
     go_ret2
     have et:(zipR ps cs).take k=zipR ps cs:=List.take_of_length_le (by rw [zipR_len];omega);have he':=HE.out;have hv':=HV.out;have ht':=HTK.out;have hn':=HN.out;rw [et] at he' hv' ht' hn';exact ⟨⟨_,true,rfl,(fun _=>⟨P,rfl,⟨es,HF.out.es (by omega) (by omega),he'⟩,⟨.inl (by omega),hv',ht'⟩,hn'⟩),fun _=>rfl⟩,HG.out⟩
def ScBu (t:TypeId):Bool:=t==112 || t==118
theorem FrX.toT {w w':World}(h:FrX ScBu w w'):FrT w w':=⟨fun b t cur z ht e=>h.keep b t cur z (by
 revert ht
 unfold ScT ScBu;cases (t==112) <;> cases (t==118) <;> simp) e⟩
theorem FrX.mapped {S:TypeId->Bool}{w w':World}{b:Nat}(h:NbT w b)(hg:w.grownBy w' (some b)):FrX S w w':=⟨fun g t cur z _ e=>by
 have hne:some g≠some b:=fun e2=>by
  obtain ⟨D,⟨es,clock,hb,_⟩,_⟩:=h;simp only [Option.some.injEq] at e2;subst e2;rw [hb] at e;simp at e
 rw [hg.block g (Array.getElem?_eq_some_iff.1 e).1 hne];exact e⟩
structure FrB (q:Nat)(w w':World):Prop where
 fx:FrX ScBu w w'
 os:w'.os=w.os
 tape:w'.tape=w.tape
 output:w'.output=w.output
 size:w.heap.size<=w'.heap.size
 lo:∀ i,i<q->i<w.heap.size->w'.heap[i]?=w.heap[i]?
theorem FrB.of {q:Nat}{w w':World}(hg:w.grownBy w' none):FrB q w w':=⟨FrX.of hg,hg.os,hg.tape,hg.output,hg.size,fun i _ h=>hg.block i h (by simp)⟩
theorem FrB.trans {q:Nat}{a b c:World}(h:FrB q a b)(k:FrB q b c):FrB q a c :=
 ⟨h.fx.trans k.fx,k.os.trans h.os,k.tape.trans h.tape,k.output.trans h.output,Nat.le_trans h.size k.size,fun i hi hs=>(k.lo i hi (Nat.lt_of_lt_of_le hs h.size)).trans (h.lo i hi hs)⟩
theorem FrB.row {q:Nat}{w w':World}{r:Option Nat}(fx:FrX ScBu w w')(hg:w.grownBy w' r)(hr:∀ g,r=some g->q<=g):FrB q w w' :=
 ⟨fx,hg.os,hg.tape,hg.output,hg.size,fun i hi hs=>hg.block i hs (fun e=>by have:=hr i e.symm;omega)⟩
theorem FrB.mapped {q:Nat}{w w':World}{b:Nat}(hq:q<=b)(h:NbT w b)(hg:w.grownBy w' (some b)):FrB q w w':=FrB.row (FrX.mapped h hg) hg (fun g e=>by cases e;exact hq)
theorem FrB.gr {q:Nat}{w w':World}(h:FrB q w w')(hq:w.heap.size<=q):w.grownBy w' none:=⟨h.os,h.tape,h.output,h.size,fun k hk _=>h.lo k (Nat.lt_of_lt_of_le hk hq) hk⟩
def PaT (w:World)(e:List Value)(p:TrT × Nat):Prop:=∃ u fa fn fc la ln lc,e=[u,.int .i64 (p.2:Int),.slice fa fn fc,.slice la ln lc]/\NodeT p.1.lv w u p.1.root/\BtyT w fa fn fc (firstK (flatT p.1.lv p.1.root))/\BtyT w la ln lc (lastK (flatT p.1.lv p.1.root))
theorem PaT.kept {w w':World}{e:List Value}{p:TrT × Nat}(h:PaT w e p)(hg:FrT w w'):PaT w' e p:=by
 obtain ⟨u,fa,fn,fc,la,ln,lc,h1,h2,h3,h4⟩:=h;exact ⟨u,fa,fn,fc,la,ln,lc,h1,h2.kept _ hg,h3.kept hg,h4.kept hg⟩
theorem pat_wf {w:World}{es:List (List Value)}{L:List (TrT × Nat)}(h:ElyT (PaT w) es L):(∀ e∈es,e.length=4)/\∀ e∈es,∀ v∈e,v.oneCell'=true:=by
 have key:∀ e∈es,∃ p,PaT w e p:=fun e he=>by
  obtain ⟨i,hi,rfl⟩:=List.getElem_of_mem he;have h2:L[i]?=some (L[i]'(by rw [<- h.len];exact hi)):=List.getElem?_eq_getElem _;exact ⟨_,h.el i _ _ (List.getElem?_eq_getElem hi) h2⟩
 refine ⟨fun e he=>?_,fun e he v hv=>?_⟩
 ·obtain ⟨p,u,fa,fn,fc,la,ln,lc,rfl,_⟩:=key e he
  rfl
 ·obtain ⟨p,u,fa,fn,fc,la,ln,lc,rfl,hu,_⟩:=key e he
  obtain ⟨T,g,rfl⟩:=hu.one;simp only [List.mem_cons,List.not_mem_nil,or_false] at hv;rcases hv with rfl | rfl | rfl | rfl <;> rfl
structure PatL (w:World)(q:Nat)(v:Value)(L:List (TrT × Nat)):Prop where
 ex:∃ es,w.ownsRow q 118 4 v L.length es.flatten/\ElyT (PaT w) es L
structure BuT (w:World)(B b q:Nat)(v:Value)(s:BdS):Prop where
 box:w.heap[B]?=some (.cells #[v,.map (some b)] 112 (0,0))
 ps:PatL w q v s.parts
 us:SeT w b s.used
 qb:q<=b
 qB:q<=B
theorem PatL.len {w:World}{q:Nat}{v:Value}{L:List (TrT × Nat)}(h:PatL w q v L):∃ a c,v=.slice a L.length c/\L.length<=c/\c<=9223372036854775807:=by
 obtain ⟨es,h1,h2⟩:=h.ex;rcases h1.2 with ⟨e,e0⟩ | ⟨g,cap,cur,e,_,_,hc,hm,_⟩
 ·exact ⟨none,0,by rw [e0];exact e,by omega,by omega⟩
 ·exact ⟨_,cap,e,hc,by unfold maxLen at hm;omega⟩
theorem PatL.same {w w':World}{q:Nat}{v:Value}{L:List (TrT × Nat)}(h:PatL w q v L)(hk:∀ i,TgT w i 118->w'.heap[i]?=w.heap[i]?)(hg:FrT w w'):PatL w' q v L:=by
 obtain ⟨es,h1,h2⟩:=h.ex;exact ⟨es,own_blk h1 fun i _ ht=>hk i ht,h2.mono fun e x k=>k.kept hg⟩
theorem flat_takeP {T:Type}{k:Nat}:∀ (es:List (List T)) (m:Nat),(∀ e∈es,e.length=k)->(es.take m).flatten=es.flatten.take (m*k)
 | [],m,_=>by simp
 | e::es,0,_=>by simp
 | e::es,m+1,h=>by
  have he:(m+1)*k=e.length+m*k:=by rw [h e List.mem_cons_self,Nat.succ_mul,Nat.add_comm]
  rw [List.take_succ_cons,List.flatten_cons,List.flatten_cons,flat_takeP es m (fun x hx=>h x (List.mem_cons_of_mem _ hx)),he,List.take_length_add_append]
theorem own_cut {w:World}{base n c k:Nat}{t:TypeId}{a:Option Addr}{xs:List Value}(h:w.ownsRow base t k (.slice a n c) n xs){m:Nat}(hm:m<=n):w.ownsRow base t k (.slice a m c) m (xs.take (m*k)):=by
 have hk:=Nat.mul_le_mul_right k hm;refine ⟨by rw [List.length_take,h.1];omega,?_⟩;rcases h.2 with ⟨e,e0⟩ | ⟨g,cap,cur,e,h2,h3,h4,h5,h6,h7⟩
 ·cases e
  exact .inl ⟨by rw [show m=0 by omega],by omega⟩
 ·cases e
  exact .inr ⟨g,c,cur,rfl,h2,h3,by omega,h5,h6,by rw [<- h7,List.take_take,Nat.min_eq_left hk]⟩
theorem PatL.cut {w:World}{q n c:Nat}{a:Option Addr}{L:List (TrT × Nat)}(h:PatL w q (.slice a n c) L)(hn:L.length=n){m:Nat}(hm:m<=n):PatL w q (.slice a m c) (L.take m):=by
 obtain ⟨es,h1,h2⟩:=h.ex;subst hn;have h3:=own_cut h1 hm;have hl:(L.take m).length=m:=by rw [List.length_take];omega
 refine ⟨es.take m,?_,h2.take m⟩;rw [hl,flat_takeP es m (pat_wf h2).1];exact h3
theorem PatL.part {w:World}{q n c:Nat}{a:Option Addr}{L:List (TrT × Nat)}(h:PatL w q (.slice a n c) L){i:Nat}{p:TrT × Nat}(hp:L[i]?=some p):∃ g u fa fn fc la ln lc,a=some ⟨g,0,none⟩/\TgT w g 118/\w.cell? ⟨g,i*4,none⟩=some u/\w.cell? ⟨g,i*4+1,none⟩=some (.int .i64 (p.2:Int))/\w.cell? ⟨g,i*4+2,none⟩=some (.slice fa fn fc)/\w.cell? ⟨g,i*4+3,none⟩=some (.slice la ln lc)/\NodeT p.1.lv w u p.1.root/\BtyT w fa fn fc (firstK (flatT p.1.lv p.1.root))/\BtyT w la ln lc (lastK (flatT p.1.lv p.1.root)):=by
 obtain ⟨es,h1,h2⟩:=h.ex;obtain ⟨e,e1,u,fa,fn,fc,la,ln,lc,rfl,k1,k2,k3⟩:=h2.get hp;obtain ⟨s1,s2⟩:=pat_wf h2;have hi:i<L.length:=(List.getElem?_eq_some_iff.1 hp).1;rcases h1.2 with ⟨e,e0⟩ | ⟨g,cap,cur,e,_,h3,_⟩
 ·omega
 ·cases e
  have at_:∀ (f:Nat) (x:Value),[u,.int .i64 (p.2:Int),.slice fa fn fc,.slice la ln lc][f]?=some x->w.cell? ⟨g,i*4+f,none⟩=some x:=fun f x hf=>by
   have h4:=flat_out s1 e1 hf;have h5:=(List.getElem?_eq_some_iff.1 h4).1;rw [h1.cellAt _ (by have:=h1.1;omega)];exact h4
  exact ⟨g,u,fa,fn,fc,la,ln,lc,rfl,⟨_,_,h3⟩,at_ 0 _ rfl,at_ 1 _ rfl,at_ 2 _ rfl,at_ 3 _ rfl,k1,k2,k3⟩
theorem BuT.used {w w':World}{B b q:Nat}{v:Value}{s:BdS}{S:List Int}(h:BuT w B b q v s)(hg:w.grownBy w' (some b))(hs:SeT w' b S):BuT w' B b q v ⟨s.parts,S⟩:=by
 have hf:FrX (fun _=>false) w w':=FrX.mapped (seT_nb h.us) hg;refine ⟨hf.keep _ _ _ _ rfl h.box,h.ps.same (fun i ⟨cur,z,e⟩=>by rw [hf.keep i _ cur z rfl e,e]) (FrT.mapped (seT_nb h.us) hg),hs,h.qb,h.qB⟩
theorem BuT.grown {w w':World}{B b q:Nat}{v:Value}{s:BdS}(h:BuT w B b q v s)(hg:w.grownBy w' none):BuT w' B b q v s :=
 have hf:FrX (fun _=>false) w w':=FrX.of hg
 ⟨hf.keep _ _ _ _ rfl h.box,h.ps.same (fun i ⟨cur,z,e⟩=>by rw [hf.keep i _ cur z rfl e,e]) (FrT.of hg),h.us.keptN hg,h.qb,h.qB⟩
theorem info_tpart:(Tryz.prog.info? 118).map (fun i=>(i.zero,i.size,i.bytes))=some (some (.agg #[.nilIface,.int .i64 0,.slice none 0 0,.slice none 0 0]),4,72):=by kernel_rfl
theorem own_tg {w:World}{base n k:Nat}{t:TypeId}{v:Value}{xs:List Value}(h:w.ownsRow base t k v n xs){g:Nat}(hg:v.ownBlock=some g):TgT w g t:=by
 rcases h.2 with ⟨e,_⟩ | ⟨g',cap,cur,e,_,h3,_⟩
 ·rw [e] at hg;cases hg
 ·rw [e] at hg;cases hg;exact ⟨_,_,h3⟩
theorem wrap_id10 {x:Int}(h1:-9223372036854775808<=x)(h2:x<9223372036854775808):IntKind.i64.wrap x=x:=by simp [IntKind.wrap,IntKind.bits,IntKind.signed];omega
def BcQ (f:Bool)(P:Prop):Prop:=(f=true->¬ P)/\(f=false->P)
theorem BcQ.yes {P:Prop}(h:P):BcQ false P:=⟨(fun e=>by cases e),fun _=>h⟩
theorem BcQ.no {P:Prop}(h:¬ P):BcQ true P:=⟨fun _=>h,(fun e=>by cases e)⟩
def AlX (w:World)(B b q:Nat)(s:BdS)(pl:Nat)(n:RnT)(en:Ending)(w':World):Prop :=
 (∃ f,en=.returned (.bool f)/\(f=true->LfC s.used n/\∃ v',BuT w' B b q v' ⟨s.parts++[(⟨0,(⟨n.no,zipR n.ps n.cs⟩:LfT)⟩,pl)],s.used++(zipR n.ps n.cs).flatMap PrT.chain⟩)/\(LfC s.used n->f=true))/\FrB q w w'
theorem alx_no {w w':World}{B b q:Nat}{s:BdS}{pl:Nat}{n:RnT}{en:Ending}(e:en=.returned (.bool false))(h:¬ LfC s.used n)(hf:FrB q w w'):AlX w B b q s pl n en w' :=
 ⟨⟨false,e,(fun k=>by cases k),fun k=>absurd k h⟩,hf⟩
theorem addLeaf_no (B b q pl:Nat)(s:BdS)(n:RnT)(pa:Option Addr)(pn pc:Nat)(ca:Option Addr)(cn cc:Nat)(sa:Option Addr)(sn sc:Nat)(ka:Option Addr)(kn kc:Nat)(w:World)
  (hp:n.ps.length=pn) (hs:n.ss.length=sn) (hk:n.ks.length=kn) (h:pn=0∨0<sn∨0<kn) :
  Calls Tryz.prog 78 #[.pointer (some ⟨B,0,none⟩),.int .i64 (pl:Int),.agg #[.int .i64 n.no,.int .i64 n.lv,.slice pa pn pc,.slice ca cn cc,.slice sa sn sc,.slice ka kn kc]] w fun en w'=>AlX w B b q s pl n en w':=by
 have HN:Hid (¬ LfC s.used n):=fun l=>by
  have h1:=l.ne;have h2:=l.ss;have h3:=l.ks;rcases h with h | h | h
  ·exact h1 (List.eq_nil_of_length_eq_zero (by omega))
  ·rw [h2] at hs
   simp at hs;omega
  ·rw [h3] at hk
   simp at hk;omega
 have GX:=hZq (FrB.of (q:=q) (World.grownBy_alloc w (.cells #[.int .i64 n.no,.int .i64 n.lv,.slice pa pn pc,.slice ca cn cc,.slice sa sn sc,.slice ka kn kc] 61) none));clear hp hs hk
 by_cases h0:pn=0
 ·subst h0
  go_enter Tryz.func78,Tryz.ntmps78;go_wp2;go_ret;exact alx_no rfl HN.out GX.out
 ·have h1:¬ (pn:Int)=0:=by omega
  by_cases h2:0<sn
  ·have h3:(0:Int)<(sn:Int):=by omega
   go_enter Tryz.func78,Tryz.ntmps78;go_wp2;go_ret;exact alx_no rfl HN.out GX.out
  ·have h3:¬ (0:Int)<(sn:Int):=by omega
   have h4:(0:Int)<(kn:Int):=by omega
   go_enter Tryz.func78,Tryz.ntmps78;go_wp2;go_ret;exact alx_no rfl HN.out GX.out
def AptX (n:Nat)(x y:NdT n)(kl s kf:List Int)(w:World)(en:Ending)(w':World):Prop:=BoxP (cmpZ kl s<0/\cmpZ s kf<=0/\joinsT n x s y=false) en/\w.grownBy w' none
theorem apartX_L (hJ:JoinsU 0)(x y:NdT 0)(b1 b2:Nat)(t1 t2:Int)(fa:Option Addr)(fn fc:Nat)(la:Option Addr)(ln lc:Nat)(fa':Option Addr)(fn' fc':Nat)(la':Option Addr)(ln' lc':Nat)(so:Option Addr)(sn sc:Nat)(kl s kf:List Int)(w:World)
  (hx:NodeT 0 w (.iface 133 (.pointer (some ⟨b1,0,none⟩))) x) (hy:NodeT 0 w (.iface 133 (.pointer (some ⟨b2,0,none⟩))) y) (ox:OkT 0 x) (oy:OkT 0 y) (hs:BtU w so sn sc s) (vs:Vs s) (hl:Byt w la ln lc kl) (hf:Byt w fa' fn' fc' kf) (bl:Bt kl) (bf:Bt kf) :
  Calls Tryz.prog 111 #[.agg #[.iface 133 (.pointer (some ⟨b1,0,none⟩)),.int .i64 t1,.slice fa fn fc,.slice la ln lc],.slice so sn sc,.agg #[.iface 133 (.pointer (some ⟨b2,0,none⟩)),.int .i64 t2,.slice fa' fn' fc',.slice la' ln' lc']] w fun en w'=>AptX 0 x y kl s kf w en w':=by
 have G1:=World.grownBy_alloc w (.cells #[.iface 133 (.pointer (some ⟨b1,0,none⟩)),.int .i64 t1,.slice fa fn fc,.slice la ln lc] 118) none;have G2:=hZq (gZq G1 (World.grownBy_alloc (w.alloc (.cells #[.iface 133 (.pointer (some ⟨b1,0,none⟩)),.int .i64 t1,.slice fa fn fc,.slice la ln lc] 118)) (.cells #[.iface 133 (.pointer (some ⟨b2,0,none⟩)),.int .i64 t2,.slice fa' fn' fc',.slice la' ln' lc'] 118) none));have C1:=hZq (compare_any la so ln sn lc sc kl s _ (hl.keptN G2.out) (hs.b.keptN G2.out) bl vs.kb);have C2:=hZq (compare_any so fa' sn fn' sc fc' s kf _ (hs.b.keptN G2.out) (hf.keptN G2.out) vs.kb bf);have JQ:=hZq (hJ b1 (.iface 133 (.pointer (some ⟨b2,0,none⟩))) x y so sn sc s _ (hx.kept 0 (FrT.of G2.out)) (hy.kept 0 (FrT.of G2.out)) ox oy (hs.kept (CkF.of G2.out)) vs);have hme:=mL_joins;clear G1 hx hy hs hl hf;generalize hz1:cmpZ kl s=z1 at C1;generalize hz2:cmpZ s kf=z2 at C2;generalize hj:joinsT 0 x s y=f at JQ;have Z1:=hZq hz1;have Z2:=hZq hz2;have ZJ:=hZq hj;clear hz1 hz2 hj
 by_cases h1:z1<0
 ·by_cases h2:z2<=0
  ·go_enter Tryz.func111,Tryz.ntmps111
   go_wp2_with (first | (go_at_call 126;first | (refine C1.out.mono ?_;rintro en w2 ⟨rfl,rfl⟩) | (refine C2.out.mono ?_;rintro en w2 ⟨rfl,rfl⟩)) | (go_at_call 171;refine JQ.out.mono ?_;rintro en w2 ⟨rfl,hg2⟩))
   have G3:=hZq (gZq G2.out hg2);clear hg2;go_ret;refine ⟨⟨!f,rfl,(fun e=>⟨by rw [Z1.out];exact h1,by rw [Z2.out];exact h2,by rw [ZJ.out];simpa using e⟩),fun h=>by have h9:=h.2.2;rw [ZJ.out] at h9;rw [h9];rfl⟩,G3.out⟩
  ·go_enter Tryz.func111,Tryz.ntmps111
   go_wp2_with (go_at_call 126;first | (refine C1.out.mono ?_;rintro en w2 ⟨rfl,rfl⟩) | (refine C2.out.mono ?_;rintro en w2 ⟨rfl,rfl⟩))
   go_ret;exact ⟨⟨false,rfl,(fun e=>by cases e),fun h=>by have h9:=h.2.1;rw [Z2.out] at h9;omega⟩,G2.out⟩
 ·go_enter Tryz.func111,Tryz.ntmps111
  go_wp2_with (go_at_call 126;refine C1.out.mono ?_;rintro en w2 ⟨rfl,rfl⟩)
  go_ret;exact ⟨⟨false,rfl,(fun e=>by cases e),fun h=>by have h9:=h.1;rw [Z1.out] at h9;omega⟩,G2.out⟩
theorem apartX_B {n:Nat}(hJ:JoinsU (n+1))(x y:NdT (n+1))(b1 b2:Nat)(t1 t2:Int)(fa:Option Addr)(fn fc:Nat)(la:Option Addr)(ln lc:Nat)(fa':Option Addr)(fn' fc':Nat)(la':Option Addr)(ln' lc':Nat)(so:Option Addr)(sn sc:Nat)(kl s kf:List Int)(w:World)
  (hx:NodeT (n+1) w (.iface 161 (.pointer (some ⟨b1,0,none⟩))) x) (hy:NodeT (n+1) w (.iface 161 (.pointer (some ⟨b2,0,none⟩))) y) (ox:OkT (n+1) x) (oy:OkT (n+1) y) (hs:BtU w so sn sc s) (vs:Vs s) (hl:Byt w la ln lc kl) (hf:Byt w fa' fn' fc' kf) (bl:Bt kl) (bf:Bt kf) :
  Calls Tryz.prog 111 #[.agg #[.iface 161 (.pointer (some ⟨b1,0,none⟩)),.int .i64 t1,.slice fa fn fc,.slice la ln lc],.slice so sn sc,.agg #[.iface 161 (.pointer (some ⟨b2,0,none⟩)),.int .i64 t2,.slice fa' fn' fc',.slice la' ln' lc']] w fun en w'=>AptX (n+1) x y kl s kf w en w':=by
 have G1:=World.grownBy_alloc w (.cells #[.iface 161 (.pointer (some ⟨b1,0,none⟩)),.int .i64 t1,.slice fa fn fc,.slice la ln lc] 118) none;have G2:=hZq (gZq G1 (World.grownBy_alloc (w.alloc (.cells #[.iface 161 (.pointer (some ⟨b1,0,none⟩)),.int .i64 t1,.slice fa fn fc,.slice la ln lc] 118)) (.cells #[.iface 161 (.pointer (some ⟨b2,0,none⟩)),.int .i64 t2,.slice fa' fn' fc',.slice la' ln' lc'] 118) none));have C1:=hZq (compare_any la so ln sn lc sc kl s _ (hl.keptN G2.out) (hs.b.keptN G2.out) bl vs.kb);have C2:=hZq (compare_any so fa' sn fn' sc fc' s kf _ (hs.b.keptN G2.out) (hf.keptN G2.out) vs.kb bf);have JQ:=hZq (hJ b1 (.iface 161 (.pointer (some ⟨b2,0,none⟩))) x y so sn sc s _ (hx.kept (n+1) (FrT.of G2.out)) (hy.kept (n+1) (FrT.of G2.out)) ox oy (hs.kept (CkF.of G2.out)) vs);have hme:=mB_joins;clear G1 hx hy hs hl hf;generalize hz1:cmpZ kl s=z1 at C1;generalize hz2:cmpZ s kf=z2 at C2;generalize hj:joinsT (n+1) x s y=f at JQ;have Z1:=hZq hz1;have Z2:=hZq hz2;have ZJ:=hZq hj;clear hz1 hz2 hj
 by_cases h1:z1<0
 ·by_cases h2:z2<=0
  ·go_enter Tryz.func111,Tryz.ntmps111
   go_wp2_with (first | (go_at_call 126;first | (refine C1.out.mono ?_;rintro en w2 ⟨rfl,rfl⟩) | (refine C2.out.mono ?_;rintro en w2 ⟨rfl,rfl⟩)) | (go_at_call 184;refine JQ.out.mono ?_;rintro en w2 ⟨rfl,hg2⟩))
   have G3:=hZq (gZq G2.out hg2);clear hg2;go_ret;refine ⟨⟨!f,rfl,(fun e=>⟨by rw [Z1.out];exact h1,by rw [Z2.out];exact h2,by rw [ZJ.out];simpa using e⟩),fun h=>by have h9:=h.2.2;rw [ZJ.out] at h9;rw [h9];rfl⟩,G3.out⟩
  ·go_enter Tryz.func111,Tryz.ntmps111
   go_wp2_with (go_at_call 126;first | (refine C1.out.mono ?_;rintro en w2 ⟨rfl,rfl⟩) | (refine C2.out.mono ?_;rintro en w2 ⟨rfl,rfl⟩))
   go_ret;exact ⟨⟨false,rfl,(fun e=>by cases e),fun h=>by have h9:=h.2.1;rw [Z2.out] at h9;omega⟩,G2.out⟩
 ·go_enter Tryz.func111,Tryz.ntmps111
  go_wp2_with (go_at_call 126;refine C1.out.mono ?_;rintro en w2 ⟨rfl,rfl⟩)
  go_ret;exact ⟨⟨false,rfl,(fun e=>by cases e),fun h=>by have h9:=h.1;rw [Z1.out] at h9;omega⟩,G2.out⟩
def PbC (P:List (TrT × Nat))(n:RnT):Prop:=∃ (m:Nat) (ns:List (NdT m)) (ats:List Nat) (rest:List (TrT × Nat)),BrC n m ns ats/\P=rest++(upN m ns).zip ats
def KoC (n:RnT)(e:TrT × Nat)(k:Int):Prop:=(e.2:Int)=k/\(e.1.lv:Int)+1=n.lv/\(n.no≠0->noT e.1.lv e.1.root≠0)
theorem upN_len (m:Nat)(ns:List (NdT m)):(upN m ns).length=ns.length:=by unfold upN;rw [List.length_map]
theorem pb_kn {P:List (TrT × Nat)}{n:RnT}(h:PbC P n):n.ks.length<=P.length/\n.ks.length=n.ss.length+1/\n.lv<=15/\n.ps=[]/\n.cs=[]:=by
 obtain ⟨m,ns,ats,rest,hb,hp⟩:=h;have h1:=hb.al;have h2:=hb.sl;have h3:n.ks.length=ats.length:=by rw [hb.ks,List.length_map]
 have h4:P.length=rest.length+ns.length:=by rw [hp,List.length_append,List.length_zip,upN_len];omega
 have h5:=hb.lv;have h6:=hb.hi;exact ⟨by omega,by omega,by omega,hb.ps,hb.cs⟩
theorem pb_kid {P:List (TrT × Nat)}{n:RnT}(h:PbC P n){r j:Nat}{e:TrT × Nat}{k:Int}(hr:r+n.ks.length=P.length)(he:P[r+j]?=some e)(hk:n.ks[j]?=some k):KoC n e k:=by
 obtain ⟨m,ns,ats,rest,hb,hp⟩:=h;have h1:=hb.al;have h3:n.ks.length=ats.length:=by rw [hb.ks,List.length_map]
 have h4:P.length=rest.length+ns.length:=by rw [hp,List.length_append,List.length_zip,upN_len];omega
 have hrr:rest.length=r:=by omega
 have hj:j<n.ks.length:=(List.getElem?_eq_some_iff.1 hk).1;rw [hp,List.getElem?_append_right (by omega),show r+j - rest.length=j by omega] at he;obtain ⟨x,hx⟩:∃ x,ns[j]?=some x:=⟨_,List.getElem?_eq_getElem (by omega)⟩;obtain ⟨a,ha⟩:∃ a,ats[j]?=some a:=⟨_,List.getElem?_eq_getElem (by omega)⟩;have hu:(upN m ns)[j]?=some (⟨m,x⟩:TrT):=by unfold upN;rw [List.getElem?_map,hx];rfl
 have hz:((upN m ns).zip ats)[j]?=some ((⟨m,x⟩:TrT),a):=by rw [List.getElem?_zip_eq_some];exact ⟨hu,ha⟩
 rw [hz] at he;obtain rfl:((⟨m,x⟩:TrT),a)=e:=by simpa using he
 rw [hb.ks,List.getElem?_map,ha] at hk;refine ⟨by simpa using hk,hb.lv.symm,fun h0=>hb.old h0 x (List.mem_of_getElem? hx)⟩
theorem kids_of (m:Nat):∀ L:List (TrT × Nat),(∀ e∈L,e.1.lv=m)->∃ (ns:List (NdT m)) (ats:List Nat),L=(upN m ns).zip ats/\ats.length=ns.length/\ns.length=L.length
 | [],_=>⟨[],[],rfl,rfl,rfl⟩
 | e::L,h=>by
  obtain ⟨ns,ats,h1,h2,h3⟩:=kids_of m L (fun x hx=>h x (List.mem_cons_of_mem _ hx));have he:=h e List.mem_cons_self;obtain ⟨⟨lv,x⟩,a⟩:=e;have he':lv=m:=he;subst he';exact ⟨x::ns,a::ats,by rw [h1];rfl,by simp [h2],by simp [h3]⟩
theorem pb_same {P:List (TrT × Nat)}{n:RnT}{m:Nat}{ns:List (NdT m)}{ats:List Nat}{rest:List (TrT × Nat)}(h:PbC P n)(hp:P=rest++(upN m ns).zip ats)(ha:ats.length=ns.length)(hl:n.lv=(m:Int)+1)(hk:n.ks.length=ns.length):BrC n m ns ats:=by
 obtain ⟨m',ns',ats',rest',hb,hp'⟩:=h
 have hm:m'=m:=by
  have:=hb.lv;omega
 subst hm;have h1:=hb.al;have h3:n.ks.length=ats'.length:=by rw [hb.ks,List.length_map]
 rw [hp] at hp';have e1:((upN m' ns).zip ats).length=((upN m' ns').zip ats').length:=by rw [List.length_zip,List.length_zip,upN_len,upN_len];omega
 obtain ⟨_,q2⟩:=List.append_inj' hp' e1;have z1:=zip_fst (ns:=upN m' ns) (ats:=ats) (by rw [upN_len];exact ha);have z2:=zip_fst (ns:=upN m' ns') (ats:=ats') (by rw [upN_len];exact h1);have q3:=congrArg (List.map Prod.fst) q2;have q4:=congrArg (List.map Prod.snd) q2;rw [z1.1,z2.1] at q3;rw [z1.2,z2.2] at q4;rw [upN_inj q3,q4];exact hb
theorem firstK_app {A B:List PrT}(h:A≠[]):firstK (A++B)=firstK A:=by
 match A,h with
 | p::A,_=>rfl
theorem firstK_flat {T:Type}{F:T->List PrT}{x:T}{ns:List T}(h0:ns[0]?=some x)(hx:F x≠[]):firstK (ns.flatMap F)=firstK (F x):=by
 match ns,h0 with
 | y::L,h0 =>
  have e:y=x:=by simpa using h0
  rw [e,List.flatMap_cons];exact firstK_app hx
theorem lastK_flat {T:Type}{F:T->List PrT}{x:T}{ns:List T}{k:Nat}(hl:ns.length=k+1)(hk:ns[k]?=some x)(hx:F x≠[]):lastK (ns.flatMap F)=lastK (F x):=by
 have e:ns=ns.take k++[x]:=by
  have:=one_at hk;rw [List.drop_of_length_le (by omega)] at this;exact this
 rw [e,List.flatMap_append,List.flatMap_cons,List.flatMap_nil,List.append_nil];exact lastK_app hx
end Go.Proofs.YteaahinjcfjngaaGreat
