import Derived.Test.YtepcgckapoljpaaGreatQ27
import Derived.Test.YtepcgckapoljpaaGreatQ25
import Derived.Deep.RegionHeld3
set_option maxRecDepth 100000
set_option maxHeartbeats 16000000
namespace Go.Proofs.YtepcgckapoljpaaGreat
open Go.RowKit
theorem pclone_any (ad:Addr)(n c:Nat)(es:List (List Value))(w:World)(hb:EsT w 108 (some ad) n c 3 es)(hn:n<=1000000000000) :
  Calls Tryz.prog 153 #[.slice (some ad) n c] w fun en w'=>∃ v,en=.returned v/\w'.ownsRow w.heap.size 108 3 v n es.flatten/\w.grownBy w' none:=by
 obtain ⟨i0,hi,hz0,hz1,hz2⟩:=info_parts info_tpair;have q22:∀ (w:World) (a:Option Addr) (n c n' c':Nat),(binOp .eql 109 (.slice a n c) (.slice none n' c')).run Tryz.prog w=.ok (.bool a.isNone) w:=fun w a n c n' c'=>Lib.run_eql_slice_nil w _ _ a n c n' c' Tryz.underlying109
 have HB:=hZq (EsT.kept hb (by decide) (FrT.of (World.grownBy_alloc w (.cells #[] 108) none))).cells;clear hb;go_enter Tryz.func153,Tryz.ntmps153
 go_wp2_with (at_builtin;refine wpList_append_own _ rfl _ _ 109 rfl w.heap.size 108 i0 (.agg #[.slice none 0 0,.slice none 0 0,.slice none 0 0]) 3 72 Tryz.underlying109 hi hz0 hz1 hz2 rfl (by decide) _ _ _ rfl (World.ownsRow_made w #[] 0 (Nat.le_refl _) (Nat.zero_le _) rfl) ad n c es.flatten rfl ?qc1 ?qc2 ?qc3 ?qc4 ?qc5 ?qc6 ?_)
 case qc1=>exact HB.out.2.2
 case qc2=>exact HB.out.1
 case qc3=>exact HB.out.2.1
 case qc4=>unfold maxLen;omega
 case qc5=>omega
 case qc6=>simp
 intro v' w1 hown hgrow hnil;have hown':w1.ownsRow w.heap.size 108 3 v' n es.flatten:=by simpa using hown
 have HG:Hid (w.grownBy w1 none):=grown_new (World.grownBy_alloc w (.cells #[] 108) none) (by simpa [Value.ownBlock] using hgrow) (Nat.le_refl _);obtain ⟨a',c',rfl⟩:=own_shape10 hown';have HO:=hZq hown';clear hown hgrow hnil hown';go_wp2;go_ret;exact ⟨_,rfl,HO.out,HG.out⟩
def ChS (w:World)(base:Nat)(v:Value)(zs:List Int):Prop:=(zs=[]/\∃ ca,v=.slice ca 0 0)∨(0<zs.length/\w.ownsRow base 3 1 v zs.length (zs.map (Value.int .i64)))
theorem ChS.shape {w:World}{base:Nat}{v:Value}{zs:List Int}(h:ChS w base v zs):∃ a c,v=.slice a zs.length c:=by
 rcases h with ⟨rfl,ca,rfl⟩ | ⟨_,h⟩
 ·exact ⟨ca,0,rfl⟩
 ·exact own_shape10 h
theorem ChS.kept {w w':World}{base:Nat}{v:Value}{zs:List Int}{row:Option Nat}(h:ChS w base v zs)(hg:w.grownBy w' row)(hr:∀ g,row=some g->∃ t,TgT w g t/\t≠3):ChS w' base v zs:=by
 rcases h with h | ⟨h0,h⟩
 ·exact .inl h
 ·refine .inr ⟨h0,h.kept hg ?_⟩
  cases e:v.ownBlock with
  | none=>exact .inl rfl
  | some g =>
   refine .inr (fun e2=>?_);obtain ⟨_,_,cur,z,k⟩:=own_lt10 h e;obtain ⟨t,⟨cur',z',k'⟩,ht⟩:=hr g e2.symm;rw [k] at k';simp only [Option.some.injEq,Obj.cells.injEq] at k';exact ht k'.2.1.symm
theorem ChS.nm {w:World}{base:Nat}{a:Option Addr}{n c:Nat}{zs:List Int}(h:ChS w base (.slice a n c) zs)(h0:0<zs.length):n=zs.length/\NmT w a zs.length c zs:=by
 rcases h with ⟨rfl,_⟩ | ⟨_,h⟩
 ·simp at h0
 ·obtain ⟨a',c',e,hn⟩:=NmT.of_owns h
  simp only [Value.slice.injEq] at e;obtain ⟨rfl,rfl,rfl⟩:=e;exact ⟨rfl,hn⟩
theorem own_base {w:World}{b b' e sz n:Nat}{v:Value}{xs:List Value}(h:w.ownsRow b e sz v n xs)(hb:b'<=b):w.ownsRow b' e sz v n xs:=by
 refine ⟨h.1,?_⟩;rcases h.2 with h2 | ⟨g,cap,cur,h1,h2,h3⟩
 ·exact .inl h2
 ·exact .inr ⟨g,cap,cur,h1,by omega,h3⟩
theorem run_more {w:World}{base:Nat}{v:Value}{zs:List Int}{z:Int}{N:Nat}(h:ChS w base v zs)(hN:w.cell? ⟨N,0,none⟩=some (.int .i64 z))(hl:zs.length<=1000000000)(hb:base<=w.heap.size)(ty:TypeId) :
  ∃ v' w',(Builtin.append_ #[52,52] ty #[v,.slice (some ⟨N,0,none⟩) 1 1]).run Tryz.prog w=.ok v' w'/\ChS w' base v' (zs++[z])/\∃ row,w.grownBy w' row/\∀ g,row=some g->base<=g/\TgT w g 3:=by
 obtain ⟨i0,hi,hz0,hz1,hz2⟩:=info_parts info_i10
 have hnews:∀ j u,[Value.int .i64 z][j]?=some u->w.cell? ((⟨N,0,none⟩:Addr).add j)=some u:=by
  intro j u hu
  match j,hu with
  | 0,hu =>
   simp only [List.getElem?_cons_zero,Option.some.injEq] at hu;subst hu;rw [Addr.add_lit];exact hN
  | j+1,hu=>simp at hu
 have h1:∀ u∈[Value.int .i64 z],u.oneCell'=true:=by
  intro u hu;simp at hu;subst hu
  rfl
 rcases h with ⟨rfl,ca,rfl⟩ | ⟨h0,h⟩
 ·cases ca with
  | none =>
   obtain ⟨v',w',r,r1,r2,_⟩:=run_append_own (P:=Tryz.prog) w base 52 ty 3 i0 (.int .i64 0) 1 8 Tryz.underlying52 hi hz0 hz1 hz2 rfl (by decide) (.slice none 0 0) 0 [] ⟨rfl,.inl ⟨rfl,rfl⟩⟩ ⟨N,0,none⟩ 1 1 [.int .i64 z] rfl hnews h1 (by unfold maxLen;omega) (by omega) hb;exact ⟨v',w',r,.inr ⟨by simp,by simpa using r1⟩,_,r2,fun g e=>by simp [Value.ownBlock] at e⟩
  | some b =>
   obtain ⟨v',w',r,r1,r2⟩:=run_append_arg_grows (P:=Tryz.prog) w 52 ty 3 i0 (.int .i64 0) 1 8 Tryz.underlying52 hi hz0 hz1 hz2 rfl (by decide) b 0 0 [] rfl (fun j u hu=>by simp at hu) ⟨N,0,none⟩ 1 1 [.int .i64 z] rfl hnews (by omega) (by unfold maxLen;omega) (by omega);exact ⟨v',w',r,.inr ⟨by simp,by simpa using own_base r1 hb⟩,_,r2,fun g e=>by cases e⟩
 ·obtain ⟨v',w',r,r1,r2,_⟩:=run_append_own (P:=Tryz.prog) w base 52 ty 3 i0 (.int .i64 0) 1 8 Tryz.underlying52 hi hz0 hz1 hz2 rfl (by decide) v zs.length _ h ⟨N,0,none⟩ 1 1 [.int .i64 z] rfl hnews h1 (by unfold maxLen;omega) (by omega) hb
  refine ⟨v',w',r,.inr ⟨by simp,by simpa using r1⟩,_,r2,fun g e=>?_⟩;obtain ⟨k1,_,k2⟩:=own_lt10 h e;exact ⟨k1,k2⟩
theorem step_more {ops:Array Oper}{o:Oper}{a:Act}{w:World}{K:Act->World->Prop}{Q:Exit->Act->World->Prop}{E:Prop}(hgd:o.guard=none)(s x:Operand)
  (ho:o.op=.call { callee:=.builtin .append,args:=#[s,x],argTypes:=#[52,52] })
  {base:Nat} {v:Value} {zs:List Int} {z:Int} {N:Nat} (hs:a.eval s=v) (hx:a.eval x=.slice (some ⟨N,0,none⟩) 1 1) (h:ChS w base v zs) (hN:w.cell? ⟨N,0,none⟩=some (.int .i64 z)) (hl:zs.length<=1000000000) (hb:base<=w.heap.size)
  (hk:∀ v' w' row,ChS w' base v' (zs++[z])->w.grownBy w' row->(∀ g,row=some g->base<=g/\TgT w g 3)->K (a.put o.dst v') w') :
  if Region.wanted o (yielded ops a.tmps)=true then Oper.wp Tryz.prog o a w K Q else E:=by
 have hw:Region.wanted o (yielded ops a.tmps)=true:=by simp [Region.wanted,hgd]
 rw [if_pos hw];obtain ⟨v',w',hrun,r1,row,r2,r3⟩:=run_more h hN hl hb o.type;unfold Oper.wp;simp [execOp,ho,resolve,invoke,builtin,hs,hx,hrun,Result.andThen];exact hk v' w' row r1 r2 r3
theorem wpList_more {w:World}{ops:Array Oper}{rest:List Oper}{o:Oper}{a:Act}{Q:Exit->Act->World->Prop}(hgd:o.guard=none)(s x:Operand)
  (ho:o.op=.call { callee:=.builtin .append,args:=#[s,x],argTypes:=#[52,52] })
  {base:Nat} {v:Value} {zs:List Int} {z:Int} {N:Nat} (hs:a.eval s=v) (hx:a.eval x=.slice (some ⟨N,0,none⟩) 1 1) (h:ChS w base v zs) (hN:w.cell? ⟨N,0,none⟩=some (.int .i64 z)) (hl:zs.length<=1000000000) (hb:base<=w.heap.size)
  (hk:∀ v' w' row,ChS w' base v' (zs++[z])->w.grownBy w' row->(∀ g,row=some g->base<=g/\TgT w g 3)->wpList Tryz.prog ops Q rest (a.put o.dst v') w'):wpList Tryz.prog ops Q (o::rest) a w:=by
 refine wpList_plain hgd fun K hK=>?_
 obtain ⟨v',w',hrun,r1,row,r2,r3⟩:=run_more h hN hl hb o.type;unfold Oper.wp;simp [execOp,ho,resolve,invoke,builtin,hs,hx,hrun,Result.andThen];exact hK _ _ (hk v' w' row r1 r2 r3)
theorem flat_set3 {T:Type}:∀ (es:List (List T)) (i:Nat) (x y z u:T),(∀ e∈es,e.length=3)->es[i]?=some [x,y,z]->es.flatten.set (i*3+2) u=(es.set i [x,y,u]).flatten
 | [],_,_,_,_,_,_,h=>by simp at h
 | e::es,0,x,y,z,u,_,h=>by
  simp only [List.getElem?_cons_zero,Option.some.injEq] at h;subst h
  rfl
 | e::es,i+1,x,y,z,u,hs,h=>by
  have he:=hs e List.mem_cons_self;rw [List.flatten_cons,List.set_cons_succ,List.flatten_cons,<- flat_set3 es i x y z u (fun e h=>hs e (List.mem_cons_of_mem _ h)) (by simpa using h),List.set_append,if_neg (by omega)]
  congr 2
  omega
def ScP (t:TypeId):Bool:=t==52 || t==108
structure PrW (w:World)(base G m c:Nat)(es:List (List Value)):Prop where
 own:w.ownsRow base 108 3 (.slice (some ⟨G,0,none⟩) m c) m es.flatten
 sz:∀ e∈es,e.length=3
 len:es.length=m
theorem PrW.tg {w:World}{base G m c:Nat}{es:List (List Value)}(h:PrW w base G m c es):TgT w G 108:=(own_lt10 h.own rfl).2.2
theorem PrW.kept {w w':World}{base G m c:Nat}{es:List (List Value)}{row:Option Nat}(h:PrW w base G m c es)(hg:w.grownBy w' row)(hr:∀ g,row=some g->∃ t,TgT w g t/\t≠108):PrW w' base G m c es:=by
 refine ⟨h.own.kept hg (.inr (fun e=>?_)),h.sz,h.len⟩;obtain ⟨cur,z,k⟩:=h.tg;obtain ⟨t,⟨cur',z',k'⟩,ht⟩:=hr G e.symm;rw [k] at k';simp only [Option.some.injEq,Obj.cells.injEq] at k';exact ht k'.2.1.symm
theorem PrW.cell {w:World}{base G m c:Nat}{es:List (List Value)}(h:PrW w base G m c es){i f:Nat}{e:List Value}{u:Value}(he:es[i]?=some e)(hu:e[f]?=some u):w.cell? ⟨G,i*3+f,none⟩=some u:=by
 have h2:=flat_out h.sz he hu;rw [h.own.cellAt _ (by have:=(List.getElem?_eq_some_iff.1 h2).1;have:=h.own.1;omega)];exact h2
theorem PrW.set {w:World}{base G m c:Nat}{es:List (List Value)}(h:PrW w base G m c es){i:Nat}{x y z:Value}(he:es[i]?=some [x,y,z])(u:Value):PrW (w.setCell ⟨G,i*3+2,none⟩ u) base G m c (es.set i [x,y,u])/\w.grownBy (w.setCell ⟨G,i*3+2,none⟩ u) (some G):=by
 obtain ⟨h1,h2⟩:=h.own.stored (i*3+2) u;rw [flat_set3 es i x y z u h.sz he] at h1;refine ⟨⟨h1,fun e hm=>?_,by rw [List.length_set];exact h.len⟩,h2⟩;rcases List.mem_or_eq_of_mem_set hm with hm | rfl
 ·exact h.sz e hm
 ·rfl
structure NrP (w0 wr wx:World)(q base base2 G m c i:Nat)(es:List (List Value))(x y v':Value)(zs l:List Int):Prop where
 row:PrW wx base2 G m c (es.set i [x,y,v'])
 ch:ChS wx base v' zs
 nx:NxL w0 wx q l
 fr:∀ (ws:World),FrX ScP ws wr->ws.heap.size<=base->FrX ScP ws wx
 gr:∀ (ws:World),ws.grownBy wr (some q)->ws.heap.size<=base->ws.heap.size<=base2->ws.grownBy wx (some q)
 sz:wr.heap.size<=wx.heap.size
theorem lnum_r9 {y0 y2 y3 y4 y7 y8 y9 y10 y11 y12 y13 y14 y15 y16 y17 y18 y19 y20 y21 y22 y23 y24 y25 y26 y27 y28 y29 y30 y31 y32 y33 y34 y35 y36 y37 y38 y39 y40 y41 y42 y43 y44 y45 y46 y47 y48 y49 y50 y51:Value}{q base base2 G m c i:Nat}{es:List (List Value)}{x y v:Value}{zs l:List Int}{z:Int}{w0 wr:World}{K:Exit->Act->World->Prop}
  (hX:NxL w0 wr q (z::l)) (hP:PrW wr base2 G m c es) (he:es[i]?=some [x,y,v]) (hC:ChS wr base v zs) (hzl:zs.length<=100000) (hb:base<=wr.heap.size) (hw0:w0.heap.size<=base) (hw2:w0.heap.size<=base2) (hG:base2<=G)
  (hK:∀ (v31 v32 v33 v34 v35 v36 v37 v38 v39 v40 v41 v42 v43:Value) (wx:World) (v':Value),NrP w0 wr wx q base base2 G m c i es x y v' (zs++[z]) l->K .normal ⟨List.toArray (y0::(.func (.func 49) #[] #[.pointer (some ⟨q,0,none⟩)])::y2::y3::y4::(.slice (some ⟨G,0,none⟩) m c)::(.int .i64 (i:Nat))::y7::y8::y9::y10::y11::y12::y13::y14::y15::y16::y17::y18::y19::y20::y21::y22::y23::y24::y25::y26::y27::y28::y29::y30::v31::v32::v33::v34::v35::v36::v37::v38::v39::v40::v41::v42::v43::y44::y45::y46::y47::y48::y49::y50::y51::[]),[]⟩ wx) :
  Code.wp Tryz.prog (Go.Code.region 9 #[{ dst:=some 31,op:=Go.Op.move (Go.Operand.tmp 5),type:=109,pos:= "leaf.go:127",after:=#[],guard:=none },{ dst:=some 32,op:=Go.Op.move (Go.Operand.tmp 6),type:=3,pos:= "leaf.go:127",after:=#[],guard:=none },{ dst:=some 33,op:=Go.Op.move (Go.Operand.tmp 5),type:=109,pos:= "leaf.go:127",after:=#[],guard:=none },{ dst:=some 34,op:=Go.Op.move (Go.Operand.tmp 6),type:=3,pos:= "leaf.go:127",after:=#[],guard:=none },{ dst:=some 35,op:=Go.Op.indexAddr 109 (Go.Operand.tmp 33) (Go.Operand.tmp 34),type:=0,pos:= "leaf.go:127",after:=#[{ on:=2,ground:=Go.Ground.data },{ on:=3,ground:=Go.Ground.data }],guard:=none },{ dst:=some 36,op:=Go.Op.fieldAddr 108 (Go.Operand.tmp 35) 2,type:=0,pos:= "leaf.go:127",after:=#[{ on:=4,ground:=Go.Ground.data }],guard:=none },{ dst:=some 37,op:=Go.Op.load 52 (Go.Operand.tmp 36),type:=52,pos:= "leaf.go:127",after:=#[{ on:=5,ground:=Go.Ground.data }],guard:=none },{ dst:=some 38,op:=Go.Op.move (Go.Operand.tmp 1),type:=35,pos:= "leaf.go:127",after:=#[],guard:=none },{ dst:=some 39,op:=Go.Op.call { callee:=Go.Callee.value (Go.Operand.tmp 38),args:=#[],argTypes:=#[] },type:=3,pos:= "leaf.go:127",after:=#[{ on:=7,ground:=Go.Ground.data }],guard:=none },{ dst:=some 40,op:=Go.Op.buildSlice 52 1 #[(0,Go.Operand.tmp 39)],type:=52,pos:= "leaf.go:127",after:=#[{ on:=8,ground:=Go.Ground.data }],guard:=none },{ dst:=some 41,op:=Go.Op.call { callee:=Go.Callee.builtin Go.Builtin.append,args:=#[Go.Operand.tmp 37,Go.Operand.tmp 40],argTypes:=#[52,52] },type:=52,pos:= "leaf.go:127",after:=#[{ on:=6,ground:=Go.Ground.data },{ on:=9,ground:=Go.Ground.data },{ on:=8,ground:=Go.Ground.chain }],guard:=none },{ dst:=some 42,op:=Go.Op.indexAddr 109 (Go.Operand.tmp 31) (Go.Operand.tmp 32),type:=0,pos:= "leaf.go:127",after:=#[{ on:=0,ground:=Go.Ground.data },{ on:=1,ground:=Go.Ground.data },{ on:=0,ground:=Go.Ground.phase },{ on:=1,ground:=Go.Ground.phase },{ on:=2,ground:=Go.Ground.phase },{ on:=3,ground:=Go.Ground.phase },{ on:=4,ground:=Go.Ground.phase },{ on:=5,ground:=Go.Ground.phase },{ on:=6,ground:=Go.Ground.phase },{ on:=7,ground:=Go.Ground.phase },{ on:=8,ground:=Go.Ground.phase },{ on:=9,ground:=Go.Ground.phase },{ on:=10,ground:=Go.Ground.phase }],guard:=none },{ dst:=some 43,op:=Go.Op.fieldAddr 108 (Go.Operand.tmp 42) 2,type:=0,pos:= "leaf.go:127",after:=#[{ on:=11,ground:=Go.Ground.data },{ on:=0,ground:=Go.Ground.phase },{ on:=1,ground:=Go.Ground.phase },{ on:=2,ground:=Go.Ground.phase },{ on:=3,ground:=Go.Ground.phase },{ on:=4,ground:=Go.Ground.phase },{ on:=5,ground:=Go.Ground.phase },{ on:=6,ground:=Go.Ground.phase },{ on:=7,ground:=Go.Ground.phase },{ on:=8,ground:=Go.Ground.phase },{ on:=9,ground:=Go.Ground.phase },{ on:=10,ground:=Go.Ground.phase }],guard:=none },{ dst:=none,op:=Go.Op.store 52 (Go.Operand.tmp 43) (Go.Operand.tmp 41),type:=0,pos:= "leaf.go:127",after:=#[{ on:=12,ground:=Go.Ground.data },{ on:=10,ground:=Go.Ground.data },{ on:=10,ground:=Go.Ground.chain },{ on:=0,ground:=Go.Ground.phase },{ on:=1,ground:=Go.Ground.phase },{ on:=2,ground:=Go.Ground.phase },{ on:=3,ground:=Go.Ground.phase },{ on:=4,ground:=Go.Ground.phase },{ on:=5,ground:=Go.Ground.phase },{ on:=6,ground:=Go.Ground.phase },{ on:=7,ground:=Go.Ground.phase },{ on:=8,ground:=Go.Ground.phase },{ on:=9,ground:=Go.Ground.phase },{ on:=10,ground:=Go.Ground.phase }],guard:=none }] true) K ⟨List.toArray (y0::(.func (.func 49) #[] #[.pointer (some ⟨q,0,none⟩)])::y2::y3::y4::(.slice (some ⟨G,0,none⟩) m c)::(.int .i64 (i:Nat))::y7::y8::y9::y10::y11::y12::y13::y14::y15::y16::y17::y18::y19::y20::y21::y22::y23::y24::y25::y26::y27::y28::y29::y30::y31::y32::y33::y34::y35::y36::y37::y38::y39::y40::y41::y42::y43::y44::y45::y46::y47::y48::y49::y50::y51::[]),[]⟩ wr:=by
 have HK:=hZq hK;have X0:=hZq hX;have P0:=hZq hP;have C0:=hZq hC;have hil:i<m:=by have:=(List.getElem?_eq_some_iff.1 he).1;have:=hP.len;omega
 obtain ⟨va,vc,rfl⟩:=hC.shape;clear hK hX hP hC;have e1:(i:Int)<(m:Int):=by omega
 have e2:(0:Int)<=(i:Int):=by omega
 obtain ⟨v,hv⟩:∃ v,v=Value.slice va zs.length vc:=⟨_,rfl⟩;rw [<- hv] at he C0;have HV:=hZq hv;clear hv;try dsimp only
 refine wp_region_noPanic ?_;refine wp_region_held_drew (S:=(fun _=>True)) (by kernel_rfl) trivial (fun hHeld=>?_);have XD:Hid (NxL w0 wr.drew q (z::l)):=X0.out.kept ((Qt.refl wr).drew.grown none) (fun g e=>by cases e);have PD:Hid (PrW wr.drew base2 G m c es):=P0.out.kept ((Qt.refl wr).drew.grown none) (fun g e=>by cases e);have CD:Hid (ChS wr.drew base v zs):=C0.out.kept ((Qt.refl wr).drew.grown none) (fun g e=>by cases e);have GD:=hZq (show wr.grownBy wr.drew none from (Qt.refl wr).drew.grown none);have sD:wr.drew.heap.size=wr.heap.size:=rfl;generalize wr.drew=wd at *;refine wpAnyH_take (i:=0) (oi:={ dst:=some 31,op:=Go.Op.move (Go.Operand.tmp 5),type:=109,pos:= "leaf.go:127",after:=#[],guard:=none }) (v:=?_) rfl (by kernel_rfl) (by kernel_rfl) (by kernel_rfl) (fun _ _ _ h=>h) (Or.inl ⟨by rfl,?_⟩) (by assumption) ?_
 rotate_left
 ·intro w hSw;(try dsimp only at hSw);go_simp;(try with_reducible rfl)
 simp only [Act.put,List.setIfInBounds_toArray,List.set_cons_zero,List.set_cons_succ];refine wpAnyH_take (i:=1) (oi:={ dst:=some 32,op:=Go.Op.move (Go.Operand.tmp 6),type:=3,pos:= "leaf.go:127",after:=#[],guard:=none }) (v:=?_) rfl (by kernel_rfl) (by kernel_rfl) (by kernel_rfl) (fun _ _ _ h=>h) (Or.inl ⟨by rfl,?_⟩) (by assumption) ?_
 rotate_left
 ·intro w hSw;(try dsimp only at hSw);go_simp;(try with_reducible rfl)
 simp only [Act.put,List.setIfInBounds_toArray,List.set_cons_zero,List.set_cons_succ];refine wpAnyH_take (i:=2) (oi:={ dst:=some 33,op:=Go.Op.move (Go.Operand.tmp 5),type:=109,pos:= "leaf.go:127",after:=#[],guard:=none }) (v:=?_) rfl (by kernel_rfl) (by kernel_rfl) (by kernel_rfl) (fun _ _ _ h=>h) (Or.inl ⟨by rfl,?_⟩) (by assumption) ?_
 rotate_left
 ·intro w hSw;(try dsimp only at hSw);go_simp;(try with_reducible rfl)
 simp only [Act.put,List.setIfInBounds_toArray,List.set_cons_zero,List.set_cons_succ];refine wpAnyH_take (i:=3) (oi:={ dst:=some 34,op:=Go.Op.move (Go.Operand.tmp 6),type:=3,pos:= "leaf.go:127",after:=#[],guard:=none }) (v:=?_) rfl (by kernel_rfl) (by kernel_rfl) (by kernel_rfl) (fun _ _ _ h=>h) (Or.inl ⟨by rfl,?_⟩) (by assumption) ?_
 rotate_left
 ·intro w hSw;(try dsimp only at hSw);go_simp;(try with_reducible rfl)
 simp only [Act.put,List.setIfInBounds_toArray,List.set_cons_zero,List.set_cons_succ];refine wpAnyH_take (i:=4) (oi:={ dst:=some 35,op:=Go.Op.indexAddr 109 (Go.Operand.tmp 33) (Go.Operand.tmp 34),type:=0,pos:= "leaf.go:127",after:=#[{ on:=2,ground:=Go.Ground.data },{ on:=3,ground:=Go.Ground.data }],guard:=none }) (v:=?_) rfl (by kernel_rfl) (by kernel_rfl) (by kernel_rfl) (fun _ _ _ h=>h) (Or.inl ⟨by rfl,?_⟩) (by assumption) ?_
 rotate_left
 ·intro w hSw;(try dsimp only at hSw);go_simp;(try with_reducible rfl)
 simp only [Act.put,List.setIfInBounds_toArray,List.set_cons_zero,List.set_cons_succ];refine wpAnyH_take (i:=5) (oi:={ dst:=some 36,op:=Go.Op.fieldAddr 108 (Go.Operand.tmp 35) 2,type:=0,pos:= "leaf.go:127",after:=#[{ on:=4,ground:=Go.Ground.data }],guard:=none }) (v:=?_) rfl (by kernel_rfl) (by kernel_rfl) (by kernel_rfl) (fun _ _ _ h=>h) (Or.inl ⟨by rfl,?_⟩) (by assumption) ?_
 rotate_left
 ·intro w hSw;(try dsimp only at hSw);go_simp;(try with_reducible rfl)
 simp only [Act.put,List.setIfInBounds_toArray,List.set_cons_zero,List.set_cons_succ];refine wpAnyH_take (i:=7) (oi:={ dst:=some 38,op:=Go.Op.move (Go.Operand.tmp 1),type:=35,pos:= "leaf.go:127",after:=#[],guard:=none }) (v:=?_) rfl (by kernel_rfl) (by kernel_rfl) (by kernel_rfl) (fun _ _ _ h=>h) (Or.inl ⟨by rfl,?_⟩) (by assumption) ?_
 rotate_left
 ·intro w hSw;(try dsimp only at hSw);go_simp;(try with_reducible rfl)
 simp only [Act.put,List.setIfInBounds_toArray,List.set_cons_zero,List.set_cons_succ];refine wpAnyH_ready (rs:=[6,8]) (by kernel_rfl) (by simp) ?_;refine AllReadyH.cons (o:={ dst:=some 37,op:=Go.Op.load 52 (Go.Operand.tmp 36),type:=52,pos:= "leaf.go:127",after:=#[{ on:=5,ground:=Go.Ground.data }],guard:=none }) rfl (fun K2 hK2=>?_) ?_
 ·have cw:=PD.out.cell he (f:=2) (u:=v) rfl
  go_simp
  refine hK2.out _ _ trivial (fun hHeld=>?_);clear hK2 K2;try simp only [Act.put,List.setIfInBounds_toArray,List.set_cons_zero,List.set_cons_succ]
  refine wpAnyH_ready (rs:=[8]) (by kernel_rfl) (by simp) ?_;refine AllReadyH.cons (o:={ dst:=some 39,op:=Go.Op.call { callee:=Go.Callee.value (Go.Operand.tmp 38),args:=#[],argTypes:=#[] },type:=3,pos:= "leaf.go:127",after:=#[{ on:=7,ground:=Go.Ground.data }],guard:=none }) rfl (fun K2 hK2=>?_) AllReadyH.nil
  go_simp
  refine (next_any q z l w0 wd XD.out).mono ?_;rintro en w2 ⟨rfl,hx2,hg2⟩;have X2:=hZq hx2;have P2:=hZq (PD.out.kept hg2 (fun g e=>by cases e;exact ⟨52,XD.out.tg,by decide⟩));have C2:=hZq (CD.out.kept hg2 (fun g e=>by cases e;exact ⟨52,XD.out.tg,by decide⟩));have G2:=hZq hg2;clear hx2 hg2;refine hK2.out _ _ trivial (fun hHeld=>?_);clear hK2 K2;try simp only [Act.put,List.setIfInBounds_toArray,List.set_cons_zero,List.set_cons_succ]
  refine wpAnyH_ready (rs:=[9]) (by kernel_rfl) (by simp) ?_;refine AllReadyH.cons (o:={ dst:=some 40,op:=Go.Op.buildSlice 52 1 #[(0,Go.Operand.tmp 39)],type:=52,pos:= "leaf.go:127",after:=#[{ on:=8,ground:=Go.Ground.data }],guard:=none }) rfl (fun K2 hK2=>?_) AllReadyH.nil
  go_simp
  refine hK2.out _ _ trivial (fun hHeld=>?_);clear hK2 K2;try simp only [Act.put,List.setIfInBounds_toArray,List.set_cons_zero,List.set_cons_succ]
  have ga:=World.grownBy_alloc w2 (.cells #[.int .i64 z] 3) none;have X3:=hZq (X2.out.kept ga (fun g e=>by cases e));have P3:=hZq (P2.out.kept ga (fun g e=>by cases e));have C3:=hZq (C2.out.kept ga (fun g e=>by cases e));have N3:=hZq (cell_one_new w2 (.int .i64 z) 3 0 _ rfl);have G3:=hZq ga;have s3:(w2.alloc (.cells #[.int .i64 z] 3)).heap.size=w2.heap.size+1:=by simp
  clear ga;generalize hN:w2.heap.size=N at *;generalize w2.alloc (.cells #[.int .i64 z] 3)=w3 at *;refine wpAnyH_ready (rs:=[10]) (by kernel_rfl) (by simp) ?_;refine AllReadyH.cons (o:={ dst:=some 41,op:=Go.Op.call { callee:=Go.Callee.builtin Go.Builtin.append,args:=#[Go.Operand.tmp 37,Go.Operand.tmp 40],argTypes:=#[52,52] },type:=52,pos:= "leaf.go:127",after:=#[{ on:=6,ground:=Go.Ground.data },{ on:=9,ground:=Go.Ground.data },{ on:=8,ground:=Go.Ground.chain }],guard:=none }) rfl (fun K2 hK2=>?_) AllReadyH.nil;have N1:w3.cell? ⟨N,0,none⟩=some (.int .i64 z):=by have:=N3.out;rwa [Addr.add_lit] at this
  refine step_more (z:=z) (N:=N) rfl (.tmp 37) (.tmp 40) (by rfl) (by rfl) (by rfl) C3.out N1 (by omega) (by have:=G2.out.size;omega) ?_;intro v4 w4 row hc4 hg4 hr4;obtain ⟨va4,vc4,hv4⟩:=hc4.shape;obtain ⟨vn4,hvn⟩:∃ n,(zs++[z]).length=n:=⟨_,rfl⟩;rw [hvn] at hv4;subst hv4;clear hvn;have X4:=hZq (X3.out.kept hg4 (fun g e=>by have:=(hr4 g e).1;omega));have P4:=hZq (P3.out.kept hg4 (fun g e=>⟨3,(hr4 g e).2,by decide⟩));have C4:=hZq hc4;have R4:=hZq (And.intro hg4 hr4);clear hc4 hg4 hr4;refine hK2.out _ _ trivial (fun hHeld=>?_);clear hK2 K2;try simp only [Act.put,List.setIfInBounds_toArray,List.set_cons_zero,List.set_cons_succ]
  refine wpAnyH_take (i:=11) (oi:={ dst:=some 42,op:=Go.Op.indexAddr 109 (Go.Operand.tmp 31) (Go.Operand.tmp 32),type:=0,pos:= "leaf.go:127",after:=#[{ on:=0,ground:=Go.Ground.data },{ on:=1,ground:=Go.Ground.data },{ on:=0,ground:=Go.Ground.phase },{ on:=1,ground:=Go.Ground.phase },{ on:=2,ground:=Go.Ground.phase },{ on:=3,ground:=Go.Ground.phase },{ on:=4,ground:=Go.Ground.phase },{ on:=5,ground:=Go.Ground.phase },{ on:=6,ground:=Go.Ground.phase },{ on:=7,ground:=Go.Ground.phase },{ on:=8,ground:=Go.Ground.phase },{ on:=9,ground:=Go.Ground.phase },{ on:=10,ground:=Go.Ground.phase }],guard:=none }) (v:=?_) rfl (by kernel_rfl) (by kernel_rfl) (by kernel_rfl) (fun _ _ _ h=>h) (Or.inl ⟨by rfl,?_⟩) (by assumption) ?_
  rotate_left
  ·intro w hSw;(try dsimp only at hSw);go_simp;(try with_reducible rfl)
  simp only [Act.put,List.setIfInBounds_toArray,List.set_cons_zero,List.set_cons_succ];refine wpAnyH_take (i:=12) (oi:={ dst:=some 43,op:=Go.Op.fieldAddr 108 (Go.Operand.tmp 42) 2,type:=0,pos:= "leaf.go:127",after:=#[{ on:=11,ground:=Go.Ground.data },{ on:=0,ground:=Go.Ground.phase },{ on:=1,ground:=Go.Ground.phase },{ on:=2,ground:=Go.Ground.phase },{ on:=3,ground:=Go.Ground.phase },{ on:=4,ground:=Go.Ground.phase },{ on:=5,ground:=Go.Ground.phase },{ on:=6,ground:=Go.Ground.phase },{ on:=7,ground:=Go.Ground.phase },{ on:=8,ground:=Go.Ground.phase },{ on:=9,ground:=Go.Ground.phase },{ on:=10,ground:=Go.Ground.phase }],guard:=none }) (v:=?_) rfl (by kernel_rfl) (by kernel_rfl) (by kernel_rfl) (fun _ _ _ h=>h) (Or.inl ⟨by rfl,?_⟩) (by assumption) ?_
  rotate_left
  ·intro w hSw;(try dsimp only at hSw);go_simp;(try with_reducible rfl)
  simp only [Act.put,List.setIfInBounds_toArray,List.set_cons_zero,List.set_cons_succ];refine wpAnyH_ready (rs:=[13]) (by kernel_rfl) (by simp) ?_;refine AllReadyH.cons (o:={ dst:=none,op:=Go.Op.store 52 (Go.Operand.tmp 43) (Go.Operand.tmp 41),type:=0,pos:= "leaf.go:127",after:=#[{ on:=12,ground:=Go.Ground.data },{ on:=10,ground:=Go.Ground.data },{ on:=10,ground:=Go.Ground.chain },{ on:=0,ground:=Go.Ground.phase },{ on:=1,ground:=Go.Ground.phase },{ on:=2,ground:=Go.Ground.phase },{ on:=3,ground:=Go.Ground.phase },{ on:=4,ground:=Go.Ground.phase },{ on:=5,ground:=Go.Ground.phase },{ on:=6,ground:=Go.Ground.phase },{ on:=7,ground:=Go.Ground.phase },{ on:=8,ground:=Go.Ground.phase },{ on:=9,ground:=Go.Ground.phase },{ on:=10,ground:=Go.Ground.phase }],guard:=none }) rfl (fun K2 hK2=>?_) AllReadyH.nil;have fM:=P4.out.own.frozenAt (i*3+2);have cM:=P4.out.cell he (f:=2) (u:=v) rfl;have hset:=P4.out.set he (.slice va4 vn4 vc4)
  go_simp
  refine hK2.out _ _ trivial (fun hHeld=>?_);clear hK2 K2;try simp only [Act.put,List.setIfInBounds_toArray,List.set_cons_zero,List.set_cons_succ]
  refine wpAnyH_done (by kernel_rfl) ?_ _;refine NoPanic.normal ?_;refine HK.out _ _ _ _ _ _ _ _ _ _ _ _ _ _ _ ⟨hset.1,C4.out.kept hset.2 (fun g e=>by cases e;exact ⟨108,P4.out.tg,by decide⟩),X4.out.kept hset.2 (fun g e=>by cases e;omega),fun ws hf hs=>?_,fun ws hf hs hs2=>?_,by have:=GD.out.size;have:=G2.out.size;have:=G3.out.size;have:=R4.out.1.size;have:=hset.2.size;omega⟩
  ·exact (((((hf.row GD.out (fun g e=>by cases e)).row G2.out (fun g e=>.inr ⟨52,by cases e;exact XD.out.tg,by decide⟩)).row G3.out (fun g e=>by cases e)).row R4.out.1 (fun g e=>.inl (by have:=(R4.out.2 g e).1;omega))).row hset.2 (fun g e=>.inr ⟨108,by cases e;exact P4.out.tg,by decide⟩))
  ·refine grown_newR (g:=G) ?_ hset.2 (by omega)
   have h5:=gZq (gZq (gZq hf (grown_any GD.out)) G2.out) (grown_any G3.out);cases hrow:row with
   | none =>
    have:=R4.out.1;rw [hrow] at this;exact gZq h5 (grown_any this)
   | some g =>
    have:=R4.out.1;rw [hrow] at this;exact grown_newR h5 this (by have:=(R4.out.2 g hrow).1;omega)
 ·refine AllReadyH.cons (o:={ dst:=some 39,op:=Go.Op.call { callee:=Go.Callee.value (Go.Operand.tmp 38),args:=#[],argTypes:=#[] },type:=3,pos:= "leaf.go:127",after:=#[{ on:=7,ground:=Go.Ground.data }],guard:=none }) rfl (fun K2 hK2=>?_) AllReadyH.nil
  go_simp
  refine (next_any q z l w0 wd XD.out).mono ?_;rintro en w2 ⟨rfl,hx2,hg2⟩;have X2:=hZq hx2;have P2:=hZq (PD.out.kept hg2 (fun g e=>by cases e;exact ⟨52,XD.out.tg,by decide⟩));have C2:=hZq (CD.out.kept hg2 (fun g e=>by cases e;exact ⟨52,XD.out.tg,by decide⟩));have G2:=hZq hg2;clear hx2 hg2;refine hK2.out _ _ trivial (fun hHeld=>?_);clear hK2 K2;try simp only [Act.put,List.setIfInBounds_toArray,List.set_cons_zero,List.set_cons_succ]
  refine wpAnyH_ready (rs:=[6,9]) (by kernel_rfl) (by simp) ?_;refine AllReadyH.cons (o:={ dst:=some 37,op:=Go.Op.load 52 (Go.Operand.tmp 36),type:=52,pos:= "leaf.go:127",after:=#[{ on:=5,ground:=Go.Ground.data }],guard:=none }) rfl (fun K2 hK2=>?_) ?_
  ·have cw:=P2.out.cell he (f:=2) (u:=v) rfl
   go_simp
   refine hK2.out _ _ trivial (fun hHeld=>?_);clear hK2 K2;try simp only [Act.put,List.setIfInBounds_toArray,List.set_cons_zero,List.set_cons_succ]
   refine wpAnyH_ready (rs:=[9]) (by kernel_rfl) (by simp) ?_;refine AllReadyH.cons (o:={ dst:=some 40,op:=Go.Op.buildSlice 52 1 #[(0,Go.Operand.tmp 39)],type:=52,pos:= "leaf.go:127",after:=#[{ on:=8,ground:=Go.Ground.data }],guard:=none }) rfl (fun K2 hK2=>?_) AllReadyH.nil
   go_simp
   refine hK2.out _ _ trivial (fun hHeld=>?_);clear hK2 K2;try simp only [Act.put,List.setIfInBounds_toArray,List.set_cons_zero,List.set_cons_succ]
   have ga:=World.grownBy_alloc w2 (.cells #[.int .i64 z] 3) none;have X3:=hZq (X2.out.kept ga (fun g e=>by cases e));have P3:=hZq (P2.out.kept ga (fun g e=>by cases e));have C3:=hZq (C2.out.kept ga (fun g e=>by cases e));have N3:=hZq (cell_one_new w2 (.int .i64 z) 3 0 _ rfl);have G3:=hZq ga;have s3:(w2.alloc (.cells #[.int .i64 z] 3)).heap.size=w2.heap.size+1:=by simp
   clear ga;generalize hN:w2.heap.size=N at *;generalize w2.alloc (.cells #[.int .i64 z] 3)=w3 at *;refine wpAnyH_ready (rs:=[10]) (by kernel_rfl) (by simp) ?_;refine AllReadyH.cons (o:={ dst:=some 41,op:=Go.Op.call { callee:=Go.Callee.builtin Go.Builtin.append,args:=#[Go.Operand.tmp 37,Go.Operand.tmp 40],argTypes:=#[52,52] },type:=52,pos:= "leaf.go:127",after:=#[{ on:=6,ground:=Go.Ground.data },{ on:=9,ground:=Go.Ground.data },{ on:=8,ground:=Go.Ground.chain }],guard:=none }) rfl (fun K2 hK2=>?_) AllReadyH.nil;have N1:w3.cell? ⟨N,0,none⟩=some (.int .i64 z):=by have:=N3.out;rwa [Addr.add_lit] at this
   refine step_more (z:=z) (N:=N) rfl (.tmp 37) (.tmp 40) (by rfl) (by rfl) (by rfl) C3.out N1 (by omega) (by have:=G2.out.size;omega) ?_;intro v4 w4 row hc4 hg4 hr4;obtain ⟨va4,vc4,hv4⟩:=hc4.shape;obtain ⟨vn4,hvn⟩:∃ n,(zs++[z]).length=n:=⟨_,rfl⟩;rw [hvn] at hv4;subst hv4;clear hvn;have X4:=hZq (X3.out.kept hg4 (fun g e=>by have:=(hr4 g e).1;omega));have P4:=hZq (P3.out.kept hg4 (fun g e=>⟨3,(hr4 g e).2,by decide⟩));have C4:=hZq hc4;have R4:=hZq (And.intro hg4 hr4);clear hc4 hg4 hr4;refine hK2.out _ _ trivial (fun hHeld=>?_);clear hK2 K2;try simp only [Act.put,List.setIfInBounds_toArray,List.set_cons_zero,List.set_cons_succ]
   refine wpAnyH_take (i:=11) (oi:={ dst:=some 42,op:=Go.Op.indexAddr 109 (Go.Operand.tmp 31) (Go.Operand.tmp 32),type:=0,pos:= "leaf.go:127",after:=#[{ on:=0,ground:=Go.Ground.data },{ on:=1,ground:=Go.Ground.data },{ on:=0,ground:=Go.Ground.phase },{ on:=1,ground:=Go.Ground.phase },{ on:=2,ground:=Go.Ground.phase },{ on:=3,ground:=Go.Ground.phase },{ on:=4,ground:=Go.Ground.phase },{ on:=5,ground:=Go.Ground.phase },{ on:=6,ground:=Go.Ground.phase },{ on:=7,ground:=Go.Ground.phase },{ on:=8,ground:=Go.Ground.phase },{ on:=9,ground:=Go.Ground.phase },{ on:=10,ground:=Go.Ground.phase }],guard:=none }) (v:=?_) rfl (by kernel_rfl) (by kernel_rfl) (by kernel_rfl) (fun _ _ _ h=>h) (Or.inl ⟨by rfl,?_⟩) (by assumption) ?_
   rotate_left
   ·intro w hSw;(try dsimp only at hSw);go_simp;(try with_reducible rfl)
   simp only [Act.put,List.setIfInBounds_toArray,List.set_cons_zero,List.set_cons_succ];refine wpAnyH_take (i:=12) (oi:={ dst:=some 43,op:=Go.Op.fieldAddr 108 (Go.Operand.tmp 42) 2,type:=0,pos:= "leaf.go:127",after:=#[{ on:=11,ground:=Go.Ground.data },{ on:=0,ground:=Go.Ground.phase },{ on:=1,ground:=Go.Ground.phase },{ on:=2,ground:=Go.Ground.phase },{ on:=3,ground:=Go.Ground.phase },{ on:=4,ground:=Go.Ground.phase },{ on:=5,ground:=Go.Ground.phase },{ on:=6,ground:=Go.Ground.phase },{ on:=7,ground:=Go.Ground.phase },{ on:=8,ground:=Go.Ground.phase },{ on:=9,ground:=Go.Ground.phase },{ on:=10,ground:=Go.Ground.phase }],guard:=none }) (v:=?_) rfl (by kernel_rfl) (by kernel_rfl) (by kernel_rfl) (fun _ _ _ h=>h) (Or.inl ⟨by rfl,?_⟩) (by assumption) ?_
   rotate_left
   ·intro w hSw;(try dsimp only at hSw);go_simp;(try with_reducible rfl)
   simp only [Act.put,List.setIfInBounds_toArray,List.set_cons_zero,List.set_cons_succ];refine wpAnyH_ready (rs:=[13]) (by kernel_rfl) (by simp) ?_;refine AllReadyH.cons (o:={ dst:=none,op:=Go.Op.store 52 (Go.Operand.tmp 43) (Go.Operand.tmp 41),type:=0,pos:= "leaf.go:127",after:=#[{ on:=12,ground:=Go.Ground.data },{ on:=10,ground:=Go.Ground.data },{ on:=10,ground:=Go.Ground.chain },{ on:=0,ground:=Go.Ground.phase },{ on:=1,ground:=Go.Ground.phase },{ on:=2,ground:=Go.Ground.phase },{ on:=3,ground:=Go.Ground.phase },{ on:=4,ground:=Go.Ground.phase },{ on:=5,ground:=Go.Ground.phase },{ on:=6,ground:=Go.Ground.phase },{ on:=7,ground:=Go.Ground.phase },{ on:=8,ground:=Go.Ground.phase },{ on:=9,ground:=Go.Ground.phase },{ on:=10,ground:=Go.Ground.phase }],guard:=none }) rfl (fun K2 hK2=>?_) AllReadyH.nil;have fM:=P4.out.own.frozenAt (i*3+2);have cM:=P4.out.cell he (f:=2) (u:=v) rfl;have hset:=P4.out.set he (.slice va4 vn4 vc4)
   go_simp
   refine hK2.out _ _ trivial (fun hHeld=>?_);clear hK2 K2;try simp only [Act.put,List.setIfInBounds_toArray,List.set_cons_zero,List.set_cons_succ]
   refine wpAnyH_done (by kernel_rfl) ?_ _;refine NoPanic.normal ?_;refine HK.out _ _ _ _ _ _ _ _ _ _ _ _ _ _ _ ⟨hset.1,C4.out.kept hset.2 (fun g e=>by cases e;exact ⟨108,P4.out.tg,by decide⟩),X4.out.kept hset.2 (fun g e=>by cases e;omega),fun ws hf hs=>?_,fun ws hf hs hs2=>?_,by have:=GD.out.size;have:=G2.out.size;have:=G3.out.size;have:=R4.out.1.size;have:=hset.2.size;omega⟩
   ·exact (((((hf.row GD.out (fun g e=>by cases e)).row G2.out (fun g e=>.inr ⟨52,by cases e;exact XD.out.tg,by decide⟩)).row G3.out (fun g e=>by cases e)).row R4.out.1 (fun g e=>.inl (by have:=(R4.out.2 g e).1;omega))).row hset.2 (fun g e=>.inr ⟨108,by cases e;exact P4.out.tg,by decide⟩))
   ·refine grown_newR (g:=G) ?_ hset.2 (by omega)
    have h5:=gZq (gZq (gZq hf (grown_any GD.out)) G2.out) (grown_any G3.out);cases hrow:row with
    | none =>
     have:=R4.out.1;rw [hrow] at this;exact gZq h5 (grown_any this)
    | some g =>
     have:=R4.out.1;rw [hrow] at this;exact grown_newR h5 this (by have:=(R4.out.2 g hrow).1;omega)
  ·refine AllReadyH.cons (o:={ dst:=some 40,op:=Go.Op.buildSlice 52 1 #[(0,Go.Operand.tmp 39)],type:=52,pos:= "leaf.go:127",after:=#[{ on:=8,ground:=Go.Ground.data }],guard:=none }) rfl (fun K2 hK2=>?_) AllReadyH.nil
   go_simp
   refine hK2.out _ _ trivial (fun hHeld=>?_);clear hK2 K2;try simp only [Act.put,List.setIfInBounds_toArray,List.set_cons_zero,List.set_cons_succ]
   have ga:=World.grownBy_alloc w2 (.cells #[.int .i64 z] 3) none;have X3:=hZq (X2.out.kept ga (fun g e=>by cases e));have P3:=hZq (P2.out.kept ga (fun g e=>by cases e));have C3:=hZq (C2.out.kept ga (fun g e=>by cases e));have N3:=hZq (cell_one_new w2 (.int .i64 z) 3 0 _ rfl);have G3:=hZq ga;have s3:(w2.alloc (.cells #[.int .i64 z] 3)).heap.size=w2.heap.size+1:=by simp
   clear ga;generalize hN:w2.heap.size=N at *;generalize w2.alloc (.cells #[.int .i64 z] 3)=w3 at *;refine wpAnyH_ready (rs:=[6]) (by kernel_rfl) (by simp) ?_;refine AllReadyH.cons (o:={ dst:=some 37,op:=Go.Op.load 52 (Go.Operand.tmp 36),type:=52,pos:= "leaf.go:127",after:=#[{ on:=5,ground:=Go.Ground.data }],guard:=none }) rfl (fun K2 hK2=>?_) AllReadyH.nil;have cw:=P3.out.cell he (f:=2) (u:=v) rfl
   go_simp
   refine hK2.out _ _ trivial (fun hHeld=>?_);clear hK2 K2;try simp only [Act.put,List.setIfInBounds_toArray,List.set_cons_zero,List.set_cons_succ]
   refine wpAnyH_ready (rs:=[10]) (by kernel_rfl) (by simp) ?_;refine AllReadyH.cons (o:={ dst:=some 41,op:=Go.Op.call { callee:=Go.Callee.builtin Go.Builtin.append,args:=#[Go.Operand.tmp 37,Go.Operand.tmp 40],argTypes:=#[52,52] },type:=52,pos:= "leaf.go:127",after:=#[{ on:=6,ground:=Go.Ground.data },{ on:=9,ground:=Go.Ground.data },{ on:=8,ground:=Go.Ground.chain }],guard:=none }) rfl (fun K2 hK2=>?_) AllReadyH.nil;have N1:w3.cell? ⟨N,0,none⟩=some (.int .i64 z):=by have:=N3.out;rwa [Addr.add_lit] at this
   refine step_more (z:=z) (N:=N) rfl (.tmp 37) (.tmp 40) (by rfl) (by rfl) (by rfl) C3.out N1 (by omega) (by have:=G2.out.size;omega) ?_;intro v4 w4 row hc4 hg4 hr4;obtain ⟨va4,vc4,hv4⟩:=hc4.shape;obtain ⟨vn4,hvn⟩:∃ n,(zs++[z]).length=n:=⟨_,rfl⟩;rw [hvn] at hv4;subst hv4;clear hvn;have X4:=hZq (X3.out.kept hg4 (fun g e=>by have:=(hr4 g e).1;omega));have P4:=hZq (P3.out.kept hg4 (fun g e=>⟨3,(hr4 g e).2,by decide⟩));have C4:=hZq hc4;have R4:=hZq (And.intro hg4 hr4);clear hc4 hg4 hr4;refine hK2.out _ _ trivial (fun hHeld=>?_);clear hK2 K2;try simp only [Act.put,List.setIfInBounds_toArray,List.set_cons_zero,List.set_cons_succ]
   refine wpAnyH_take (i:=11) (oi:={ dst:=some 42,op:=Go.Op.indexAddr 109 (Go.Operand.tmp 31) (Go.Operand.tmp 32),type:=0,pos:= "leaf.go:127",after:=#[{ on:=0,ground:=Go.Ground.data },{ on:=1,ground:=Go.Ground.data },{ on:=0,ground:=Go.Ground.phase },{ on:=1,ground:=Go.Ground.phase },{ on:=2,ground:=Go.Ground.phase },{ on:=3,ground:=Go.Ground.phase },{ on:=4,ground:=Go.Ground.phase },{ on:=5,ground:=Go.Ground.phase },{ on:=6,ground:=Go.Ground.phase },{ on:=7,ground:=Go.Ground.phase },{ on:=8,ground:=Go.Ground.phase },{ on:=9,ground:=Go.Ground.phase },{ on:=10,ground:=Go.Ground.phase }],guard:=none }) (v:=?_) rfl (by kernel_rfl) (by kernel_rfl) (by kernel_rfl) (fun _ _ _ h=>h) (Or.inl ⟨by rfl,?_⟩) (by assumption) ?_
   rotate_left
   ·intro w hSw;(try dsimp only at hSw);go_simp;(try with_reducible rfl)
   simp only [Act.put,List.setIfInBounds_toArray,List.set_cons_zero,List.set_cons_succ];refine wpAnyH_take (i:=12) (oi:={ dst:=some 43,op:=Go.Op.fieldAddr 108 (Go.Operand.tmp 42) 2,type:=0,pos:= "leaf.go:127",after:=#[{ on:=11,ground:=Go.Ground.data },{ on:=0,ground:=Go.Ground.phase },{ on:=1,ground:=Go.Ground.phase },{ on:=2,ground:=Go.Ground.phase },{ on:=3,ground:=Go.Ground.phase },{ on:=4,ground:=Go.Ground.phase },{ on:=5,ground:=Go.Ground.phase },{ on:=6,ground:=Go.Ground.phase },{ on:=7,ground:=Go.Ground.phase },{ on:=8,ground:=Go.Ground.phase },{ on:=9,ground:=Go.Ground.phase },{ on:=10,ground:=Go.Ground.phase }],guard:=none }) (v:=?_) rfl (by kernel_rfl) (by kernel_rfl) (by kernel_rfl) (fun _ _ _ h=>h) (Or.inl ⟨by rfl,?_⟩) (by assumption) ?_
   rotate_left
   ·intro w hSw;(try dsimp only at hSw);go_simp;(try with_reducible rfl)
   simp only [Act.put,List.setIfInBounds_toArray,List.set_cons_zero,List.set_cons_succ];refine wpAnyH_ready (rs:=[13]) (by kernel_rfl) (by simp) ?_;refine AllReadyH.cons (o:={ dst:=none,op:=Go.Op.store 52 (Go.Operand.tmp 43) (Go.Operand.tmp 41),type:=0,pos:= "leaf.go:127",after:=#[{ on:=12,ground:=Go.Ground.data },{ on:=10,ground:=Go.Ground.data },{ on:=10,ground:=Go.Ground.chain },{ on:=0,ground:=Go.Ground.phase },{ on:=1,ground:=Go.Ground.phase },{ on:=2,ground:=Go.Ground.phase },{ on:=3,ground:=Go.Ground.phase },{ on:=4,ground:=Go.Ground.phase },{ on:=5,ground:=Go.Ground.phase },{ on:=6,ground:=Go.Ground.phase },{ on:=7,ground:=Go.Ground.phase },{ on:=8,ground:=Go.Ground.phase },{ on:=9,ground:=Go.Ground.phase },{ on:=10,ground:=Go.Ground.phase }],guard:=none }) rfl (fun K2 hK2=>?_) AllReadyH.nil;have fM:=P4.out.own.frozenAt (i*3+2);have cM:=P4.out.cell he (f:=2) (u:=v) rfl;have hset:=P4.out.set he (.slice va4 vn4 vc4)
   go_simp
   refine hK2.out _ _ trivial (fun hHeld=>?_);clear hK2 K2;try simp only [Act.put,List.setIfInBounds_toArray,List.set_cons_zero,List.set_cons_succ]
   refine wpAnyH_done (by kernel_rfl) ?_ _;refine NoPanic.normal ?_;refine HK.out _ _ _ _ _ _ _ _ _ _ _ _ _ _ _ ⟨hset.1,C4.out.kept hset.2 (fun g e=>by cases e;exact ⟨108,P4.out.tg,by decide⟩),X4.out.kept hset.2 (fun g e=>by cases e;omega),fun ws hf hs=>?_,fun ws hf hs hs2=>?_,by have:=GD.out.size;have:=G2.out.size;have:=G3.out.size;have:=R4.out.1.size;have:=hset.2.size;omega⟩
   ·exact (((((hf.row GD.out (fun g e=>by cases e)).row G2.out (fun g e=>.inr ⟨52,by cases e;exact XD.out.tg,by decide⟩)).row G3.out (fun g e=>by cases e)).row R4.out.1 (fun g e=>.inl (by have:=(R4.out.2 g e).1;omega))).row hset.2 (fun g e=>.inr ⟨108,by cases e;exact P4.out.tg,by decide⟩))
   ·refine grown_newR (g:=G) ?_ hset.2 (by omega)
    have h5:=gZq (gZq (gZq hf (grown_any GD.out)) G2.out) (grown_any G3.out);cases hrow:row with
    | none =>
     have:=R4.out.1;rw [hrow] at this;exact gZq h5 (grown_any this)
    | some g =>
     have:=R4.out.1;rw [hrow] at this;exact grown_newR h5 this (by have:=(R4.out.2 g hrow).1;omega)
theorem ElyT.set {T:Type}{I:List Value->T->Prop}{es:List (List Value)}{L:List T}(h:ElyT I es L)(i:Nat){e:List Value}{x:T}(k:I e x):ElyT I (es.set i e) (L.set i x):=by
 refine ⟨by rw [List.length_set,List.length_set,h.len],fun j e' x' h1 h2=>?_⟩;rw [List.getElem?_set] at h1 h2
 by_cases hj:i=j
 ·rw [if_pos hj] at h1 h2
  split at h1
  ·split at h2
   ·cases h1
    cases h2;exact k
   ·cases h2
  ·cases h1
 ·rw [if_neg hj] at h1 h2
  exact h.el j e' x' h1 h2
theorem mix_set {T:Type}{N L:List T}{k:Nat}{p':T}(hl:N.length=L.length)(hN:N[k]?=some p'):(N.take k++L.drop k).set k p'=N.take (k+1)++L.drop (k+1):=by
 have hk:=(List.getElem?_eq_some_iff.1 hN).1;rw [takeS hN,List.set_append,if_neg (by rw [List.length_take];omega),List.length_take,show k - min k N.length=0 by omega,List.append_assoc]
 congr 1
 rw [List.drop_eq_getElem_cons (by omega:k<L.length)]
 rfl
theorem mix_get {T:Type}{N L:List T}{k:Nat}{p:T}(hl:N.length=L.length)(hp:L[k]?=some p):(N.take k++L.drop k)[k]?=some p:=by
 have hk:=(List.getElem?_eq_some_iff.1 hp).1;rw [List.getElem?_append_right (by rw [List.length_take];omega),List.length_take,show k - min k N.length=0 by omega,List.getElem?_drop,Nat.add_zero];exact hp
theorem PrW.ps {w:World}{base G m c:Nat}{es:List (List Value)}{L:List PrT}(h:PrW w base G m c es)(he:ElyT (IpT w) es L):PsT w (some ⟨G,0,none⟩) m c L:=by
 obtain ⟨a,c',e,k⟩:=EsT.of_owns h.own (by decide) h.sz (fun e hm v hv=>by
  obtain ⟨i,hi⟩:=List.getElem?_of_mem hm;have hil:i<L.length:=by have:=(List.getElem?_eq_some_iff.1 hi).1;have:=he.len;omega
  obtain ⟨ka,kn,kc,va,vn,vc,ca,cn,cc,rfl,_⟩:=he.el i e _ hi (List.getElem?_eq_getElem hil);simp only [List.mem_cons,List.not_mem_nil,or_false] at hv;rcases hv with rfl | rfl | rfl <;> rfl)
 simp only [Value.slice.injEq,true_and] at e;obtain ⟨rfl,rfl⟩:=e;exact ⟨es,k,he⟩
theorem set_same {T:Type}{L:List T}{i:Nat}{x:T}(h:L[i]?=some x):L.set i x=L:=by
 refine List.ext_getElem? (fun j=>?_);rw [List.getElem?_set]
 by_cases e:i=j
 ·subst e
  rw [if_pos rfl,if_pos (List.getElem?_eq_some_iff.1 h).1,h]
 ·rw [if_neg e]
theorem set_at {T:Type}{L:List T}{i:Nat}{x y:T}(h:L[i]?=some x):(L.set i y)[i]?=some y:=by
 rw [List.getElem?_set,if_pos rfl,if_pos (List.getElem?_eq_some_iff.1 h).1]
def NumP (n:Nat)(w0 w:World)(q:Nat)(x:NdT n)(l:List Int)(en:Ending)(w':World):Prop:=∃ b,en=.returned (.iface (tyN n) (.pointer (some ⟨b,0,none⟩)))/\NodeT n w' (.iface (tyN n) (.pointer (some ⟨b,0,none⟩))) (numT n x l)/\NxL w0 w' q (l.drop (frT n x))/\w.grownBy w' (some q)
structure LnR (w0 w wr:World)(q G m c k:Nat)(ps:List PrT)(l:List Int)(es:List (List Value)):Prop where
 row:PrW wr w.heap.size G m c es
 el:ElyT (IpT wr) es ((numL numP frP ps l).take k++ps.drop k)
 nx:NxL w0 wr q (l.drop (sumT frP (ps.take k)))
 gr:w.grownBy wr (some q)
theorem lnumbered_any (b q:Nat)(x:LfT)(l:List Int)(w0 w:World)(hx:NodeT 0 w (.iface 118 (.pointer (some ⟨b,0,none⟩))) x)(ox:OkT 0 x)(hX:NxL w0 w q l)(hq:frT 0 x<=l.length) :
  Calls Tryz.prog 151 #[.pointer (some ⟨b,0,none⟩),.func (.func 49) #[] #[.pointer (some ⟨q,0,none⟩)]] w fun en w'=>NumP 0 w0 w q x l en w':=by
 have hx0:=hx;obtain ⟨b',a,m,c,e,hb,hp⟩:=hx;simp only [Value.iface.injEq,Value.pointer.injEq,Option.some.injEq,Addr.mk.injEq,true_and,and_true] at e;subst e;have k0:=cell_heap (i:=0) hb rfl;have k1:=cell_heap (i:=1) hb rfl
 by_cases h0:x.no=0
 ·have ef:frT 0 x=1+sumT frP x.ps:=by rw [frT,if_pos h0]
  have en:numT 0 x l=(⟨l.getD (sumT frP x.ps) 0,numL numP frP x.ps l⟩:LfT):=by rw [numT,if_pos h0]
  have hl:x.ps.length=m:=hp.len;have hpos:0<m:=by have:=List.length_pos_iff.2 ox.1;have h2:0<x.ps.length:=this;omega
  have hfew:m<=2100:=by
   have h1:=ox.2.2.1;have h2:=size_least (its x.ps);rw [its_len] at h2;have h3:size (its x.ps)<=4092:=h1;omega
  obtain ⟨hm1,hm2,_⟩:=hp.cap;obtain ⟨es,hes,hel⟩:=hp.ex;obtain ⟨g0,off0,ea⟩:=hes.where hpos;subst ea;have CL:=hZq (pclone_any ⟨g0,off0,none⟩ m c es w hes (by omega));have EL:=hZq hel;have SZ:=hZq hes.sz;have LN:=hZq hes.len;have HX:=hZq hX;have HL:=hZq hl;have EN:=hZq en;have EF:=hZq ef;rw [ef] at hq;rw [h0] at k0;have WS:=hZq hX.lt;clear hb hp hl hX hx0 hes hel en ef ox;go_enter Tryz.func151,Tryz.ntmps151
  go_wp2_with fail
  refine CL.out.mono ?_;rintro en w2 ⟨v,rfl,ho2,hg2⟩
  obtain ⟨G,c2,cur2,rfl,hG2,_⟩:∃ G c2 cur2,v=.slice (some ⟨G,0,none⟩) m c2/\w.heap.size<=G/\w2.heap[G]?=some (.cells cur2 108 (0,0)):=by
   rcases ho2.2 with ⟨_,h⟩ | ⟨g,cap,cur,h1,h2,h3,_⟩
   ·omega
   ·exact ⟨g,cap,cur,h1,h2,h3⟩
  have R2:Hid (LnR w0 w w2 q G m c2 0 x.ps l es):=⟨⟨ho2,SZ.out,LN.out⟩,by
   simp only [List.take_zero,List.nil_append,List.drop_zero];exact EL.out.mono (fun _ _ h=>h.kept (FrT.of hg2)),by
   simp only [List.take_zero,sumT,List.drop_zero];exact HX.out.kept hg2 (fun g e=>by cases e),grown_any hg2⟩
  clear ho2 hg2 k0 k1 CL EL SZ LN
  go_wp2_with fail
  go_loopw [6,7,22,29] (fun _ _ si _ wr=>∃ (k:Nat) (es':List (List Value)),k<=m/\si=.int .i64 k/\LnR w0 w wr q G m c2 k x.ps l es') (fun _ _ si _ _=>m - (intOf si).toNat)
  case atStart=>exact ⟨0,es,Nat.zero_le _,rfl,R2.out⟩
  case round =>
   obtain ⟨k,es1,hk,rfl,hr⟩:=hrel;have HR:=hZq hr;clear hr
   by_cases hlt:k<m
   ·obtain ⟨p,hpk⟩:∃ p,x.ps[k]?=some p:=⟨_,List.getElem?_eq_getElem (by have:=HL.out;omega)⟩
    obtain ⟨e,he,ka,kn,kc,va,vn,vc,ca,cn,cc,rfl,hip⟩:=HR.out.el.get (mix_get (numL_len numP frP x.ps l) hpk);have d0:wr.cell? ⟨G,k*3,none⟩=some (.slice ka kn kc):=HR.out.row.cell he (f:=0) rfl;have d1:wr.cell? ⟨G,k*3+1,none⟩=some (.slice va vn vc):=HR.out.row.cell he (f:=1) rfl;have d2:wr.cell? ⟨G,k*3+2,none⟩=some (.slice ca cn cc):=HR.out.row.cell he (f:=2) rfl;have e1:=frP_int hip.lens.2.2 hip.lens.2.1;have FC:=hZq (fun W=>fresh_any ka kn kc va vn vc ca cn cc W);rw [e1] at FC;have G1:=hZq (World.grownBy_alloc wr (.cells #[.slice ka kn kc,.slice va vn vc,.slice ca cn cc] 108) none);have HE:=hZq he;have HI:=hZq hip;have NG:=hZq (numL_get numP frP x.ps l k p hpk);have SS:=hZq (sumT_takeS frP hpk);have ST:=hZq (sumT_take frP (L:=x.ps) (k+1));have i0:(0:Int)<=(k:Int):=by omega
    have i1:(k:Int)<(m:Int):=by omega
    have FP:Hid (frP p<=65/\(0<frP p->p.chain=[])):=by
     have h1:=pgB_le ((p.val.length:Nat):Int);refine ⟨?_,fun h=>?_⟩
     ·unfold frP
      split <;> omega
     ·unfold frP at h
      split at h
      ·rename_i h2
       exact List.length_eq_zero_iff.1 h2
      ·omega
    clear he hip e1 hpk
    go_wp2_with fail
    refine (FC.out _).mono ?_;rintro en w5 ⟨rfl,hg5⟩;have G5:=hZq (gZq G1.out hg5);have P5:=hZq (HR.out.row.kept G5.out (fun g e=>by cases e));have E5:=hZq (HR.out.el.mono (fun _ _ h=>h.kept (FrT.of G5.out)));have X5:=hZq (HR.out.nx.kept G5.out (fun g e=>by cases e));have R5:=hZq (gZq HR.out.gr (grown_any (row:=some q) G5.out));have I5:=hZq (HI.out.kept (FrT.of G5.out));have s5:w.heap.size<=w5.heap.size:=R5.out.size;clear hg5 HR G1 HI FC d0 d1 d2;obtain ⟨F,hF⟩:∃ F,frP p=F:=⟨_,rfl⟩;rw [hF] at SS FP ⊢;have HF:=hZq hF;clear hF;obtain ⟨rest,hrest⟩:∃ r,l.drop (sumT frP (x.ps.take k))=r:=⟨_,rfl⟩;rw [hrest] at X5 NG;have HRS:=hZq hrest
    have RL:Hid (F<=rest.length):=by
     show F<=rest.length
     rw [<- hrest,List.length_drop];have h1:=SS.out;have h2:=ST.out;have h3:=hq;omega
    clear hrest
    go_wp2_with fail
    go_loopw [29] (fun s wj=>∃ (j:Nat) (v:Value),j<=F/\s=.int .i64 (j:Nat)/\PrW wj w.heap.size G m c2 (es1.set k [.slice ka kn kc,.slice va vn vc,v])/\(0<F->ChS wj w5.heap.size v (rest.take j))/\(F=0->v=.slice ca cn cc)/\NxL w0 wj q (rest.drop j)/\FrX ScP w5 wj/\w.grownBy wj (some q)/\w5.heap.size<=wj.heap.size) (fun s _=>F - (intOf s).toNat)
    case atStart =>
     refine ⟨0,.slice ca cn cc,Nat.zero_le _,rfl,by rw [set_same HE.out];exact P5.out,fun h0=>.inl ⟨rfl,ca,?_⟩,fun _=>rfl,by simpa using X5.out,FrX.refl _ _,R5.out,Nat.le_refl _⟩
     have c0:cn=0:=by
      have h1:=I5.out.lens.2.2;rw [FP.out.2 h0] at h1;simpa using h1.symm
     rw [c0,I5.out.z c0]
    case round =>
     obtain ⟨j,v,hj,rfl,hP,hC,hv0,hX,hFr,hGr,hsz⟩:=hrel;have PJ:=hZq hP;have CJ:=hZq hC;have VJ:=hZq hv0;have XJ:=hZq hX;have FJ:=hZq hFr;have GJ:=hZq hGr;clear hP hC hv0 hX hFr hGr
     by_cases hjl:j<F
     ·obtain ⟨z,hz⟩:∃ z,rest.drop j=z::rest.drop (j+1):=⟨_,drop_cons (by have:=RL.out;omega)⟩
      rw [hz] at XJ;have j1:(j:Int)<(F:Int):=by omega
      have TS:Hid (rest.take j++[z]=rest.take (j+1)):=by
       show _=_
       have h1:rest[j]?=some z:=by
        have h2:(rest.drop j)[0]?=some z:=by rw [hz];rfl
        rw [List.getElem?_drop,Nat.add_zero] at h2;exact h2
       exact (takeS h1).symm
      clear hz;go_upto_region 9 with fail
      refine lnum_r9 (z:=z) (l:=rest.drop (j+1)) (zs:=rest.take j) XJ.out PJ.out (set_at HE.out) (CJ.out (by omega)) (by have:=FP.out.1;rw [List.length_take];omega) hsz (by have:=WS.out;omega) (by have:=WS.out;omega) hG2 ?_;intro v31 v32 v33 v34 v35 v36 v37 v38 v39 v40 v41 v42 v43 wx v' hn;have NR:=hZq hn;clear hn;try simp only [Exit.inBlock,Exit.then]
      have hF65:=FP.out.1;go_wp2;go_roundw
      case rel =>
       refine ⟨j+1,v',by omega,by go_num,?_,fun _=>by rw [<- TS.out];exact NR.out.ch,fun h=>by omega,NR.out.nx,NR.out.fr _ FJ.out (Nat.le_refl _),NR.out.gr _ GJ.out s5 (Nat.le_refl _),?_⟩
       ·have:=NR.out.row
        rw [List.set_set] at this;exact this
       ·exact Nat.le_trans hsz NR.out.sz
      case measure=>simp [intOf];omega
     ·have hjF:j=F:=by omega
      subst hjF;have j1:¬ (j:Int)<(j:Int):=by omega
      have EJ:Hid (ElyT (IpT wr) (es1.set k [.slice ka kn kc,.slice va vn vc,v]) ((numL numP frP x.ps l).take (k+1)++x.ps.drop (k+1))):=by
       show ElyT _ _ _
       rw [<- mix_set (numL_len numP frP x.ps l) NG.out];refine (E5.out.mono (fun _ _ h=>h.keptX (by decide) (by decide) FJ.out)).set k ?_;have hI:=I5.out.keptX (S:=ScP) (by decide) (by decide) FJ.out
       by_cases h0:j=0
       ·have hv:=VJ.out h0
        subst hv;refine ⟨ka,kn,kc,va,vn,vc,ca,cn,cc,rfl,hI.k,hI.v,?_,hI.z⟩
        show NmT wr ca cn cc (p.chain++rest.take (frP p))
        rw [HF.out,h0,List.take_zero,List.append_nil];exact hI.c
       ·have hc:=CJ.out (by omega)
        obtain ⟨a3,c3,e3⟩:=hc.shape;subst e3;have hlen:(rest.take j).length=j:=by rw [List.length_take];have:=RL.out;omega
        obtain ⟨_,h4⟩:=hc.nm (by omega);refine ⟨ka,kn,kc,va,vn,vc,a3,_,c3,rfl,hI.k,hI.v,?_,fun h=>by omega⟩
        show NmT wr a3 _ c3 (p.chain++rest.take (frP p))
        rw [HF.out,FP.out.2 (by omega),List.nil_append];exact h4
      go_wp2;go_roundw
      case rel =>
       refine ⟨k+1,_,by omega,by go_num,PJ.out,EJ.out,?_,GJ.out⟩;have h1:=XJ.out;rw [<- HRS.out,List.drop_drop,<- SS.out] at h1;exact h1
      case measure=>simp [intOf];omega
   ·have hk2:k=m:=by omega
    subst hk2;have ht:x.ps.take k=x.ps:=List.take_of_length_le (by have:=HL.out;omega)
    have hN:(numL numP frP x.ps l).take k++x.ps.drop k=numL numP frP x.ps l:=by
     rw [List.take_of_length_le (by rw [numL_len];have:=HL.out;omega),List.drop_eq_nil_of_le (by have:=HL.out;omega),List.append_nil]
    have X1:=hZq HR.out.nx;have E1:=hZq HR.out.el;rw [hN] at E1;rw [ht] at X1;obtain ⟨z,hz⟩:∃ z,l.drop (sumT frP x.ps)=z::l.drop (sumT frP x.ps+1):=⟨_,drop_cons (by omega)⟩
    have hzd:l.getD (sumT frP x.ps) 0=z:=by
     have:=drop_cons (a:=l) (i:=sumT frP x.ps) (by omega);rw [hz] at this;exact (List.cons.inj this).1.symm
    rw [hz] at X1;have HZ:=hZq hzd;have NC:=hZq (next_any q z _ w0 wr X1.out);have i1:¬ (k:Int)<(k:Int):=by omega
    clear ht hN hz hzd
    go_wp2_with fail
    refine NC.out.mono ?_;rintro en w5 ⟨rfl,hx5,hg5⟩;have P5:=hZq (HR.out.row.kept hg5 (fun g e=>by cases e;exact ⟨52,X1.out.tg,by decide⟩));have E5:=hZq (E1.out.mono (fun _ _ h=>h.keptX (by decide) (by decide) (X1.out.fr hg5)));have X5:=hZq hx5;have G5:=hZq (gZq HR.out.gr hg5);clear hx5 hg5 NC HR E1 X1;go_wp2;go_ret;have ga:=World.grownBy_alloc w5 (.cells #[.int .i64 z,.slice (some ⟨G,0,none⟩) k c2] 120) none;unfold NumP;rw [EN.out,EF.out];refine ⟨_,rfl,⟨w5.heap.size,some ⟨G,0,none⟩,k,c2,rfl,?_,?_⟩,?_,gZq G5.out (grown_any ga)⟩
    ·show (w5.alloc _).heap[w5.heap.size]?=_
     rw [HZ.out];exact heap_at0 w5 _ _
    ·exact (P5.out.ps E5.out).kept (FrT.of ga)
    ·rw [Nat.add_comm]
     exact X5.out.kept ga (fun g e=>by cases e)
 ·have ef:frT 0 x=0:=by rw [frT,if_neg h0]
  have en:numT 0 x l=x:=by rw [numT,if_neg h0]
  have hn:(x.no != 0)=true:=by simp [h0]
  have HX:=hZq hX;have HN:=hZq hx0;clear hb hp hx0 hX k1;go_enter Tryz.func151,Tryz.ntmps151;go_wp2;go_ret;unfold NumP;rw [en,ef];exact ⟨b,rfl,HN.out,by simpa using HX.out,World.grownBy.refl _ _⟩
theorem PsT.keptS {S:TypeId->Bool}{w w':World}{a:Option Addr}{n c:Nat}{L:List PrT}(h:PsT w a n c L)(hp:S 108=false)(h8:S 5=false)(hi:S 3=false)(hg:FrX S w w'):PsT w' a n c L:=SlT.monoX h hp hg (fun _ _ k=>k.keptX h8 hi hg)
theorem IbT.keptS {S:TypeId->Bool}{w w':World}{e:List Value}{s:List Int}(h:IbT w e s)(h8:S 5=false)(hg:FrX S w w'):IbT w' e s:=by
 obtain ⟨ao,n,c,h1,h2⟩:=h;exact ⟨ao,n,c,h1,h2.keptX h8 hg⟩
theorem SsT.keptS {S:TypeId->Bool}{w w':World}{a:Option Addr}{n c:Nat}{L:List (List Int)}(h:SsT w a n c L)(hb:S 30=false)(h8:S 5=false)(hg:FrX S w w'):SsT w' a n c L:=SlT.monoX h hb hg (fun _ _ k=>k.keptS h8 hg)
theorem node_uniq:∀ (n m:Nat) {w:World} {v:Value} {x:NdT n} {y:NdT m},NodeT n w v x->NodeT m w v y->OkT n x->OkT m y->n=m
 | 0,0,_,_,_,_,_,_,_,_=>rfl
 | 0,m+1,w,v,x,y,hx,hy,_,_=>by
  obtain ⟨b,a,k,c,h1,_⟩:=hx;obtain ⟨b',a',k',c',sa,sm,sc,h2,_⟩:=hy;rw [h1] at h2;simp at h2
 | n+1,0,w,v,x,y,hx,hy,_,_=>by
  obtain ⟨b,a,k,c,sa,sm,sc,h1,_⟩:=hx;obtain ⟨b',a',k',c',h2,_⟩:=hy;rw [h1] at h2;simp at h2
 | n+1,m+1,w,v,x,y,hx,hy,ox,oy=>by
  obtain ⟨b,a,k,c,sa,sm,sc,h1,hb,hn,_⟩:=hx;obtain ⟨b',a',k',c',sa',sm',sc',h2,hb',hn',_⟩:=hy;rw [h1] at h2;simp only [Value.iface.injEq,Value.pointer.injEq,Option.some.injEq,Addr.mk.injEq,true_and,and_true] at h2;subst h2;rw [hb] at hb';simp only [Option.some.injEq,Obj.cells.injEq,Array.mk.injEq,List.cons.injEq,Value.slice.injEq,and_true,Value.int.injEq,true_and] at hb';obtain ⟨_,⟨rfl,rfl,rfl⟩,_⟩:=hb';have p1:0<(BnT.row (T:=NdT n) x).ns.length:=List.length_pos_iff.2 ox.1;have p2:0<(BnT.row (T:=NdT m) y).ns.length:=List.length_pos_iff.2 oy.1;have e1:(BnT.row (T:=NdT n) x).ns[0]?=some ((BnT.row (T:=NdT n) x).ns[0]'p1):=List.getElem?_eq_getElem p1;have e2:(BnT.row (T:=NdT m) y).ns[0]?=some ((BnT.row (T:=NdT m) y).ns[0]'p2):=List.getElem?_eq_getElem p2;have hn1:NsT n w a k c (BnT.row (T:=NdT n) x).ns:=hn;have hn2:NsT m w a k c (BnT.row (T:=NdT m) y).ns:=hn';obtain ⟨g,off,u,ea,c1,k1⟩:=hn1.node e1;obtain ⟨g',off',u',ea',c2,k2⟩:=hn2.node e2;rw [ea] at ea';simp only [Option.some.injEq,Addr.mk.injEq,and_true] at ea';obtain ⟨rfl,rfl⟩:=ea';rw [c1] at c2;cases c2;rw [node_uniq n m k1 k2 (ox.2.1 _ (List.mem_of_getElem? e1)) (oy.2.1 _ (List.mem_of_getElem? e2))]
def ScQ (t:TypeId):Bool:=t==82
theorem own_list {w:World}{base g m:Nat}{t:TypeId}{xs:List Value}(h:w.ownsRow base t 1 (.slice (some ⟨g,0,none⟩) m m) m xs):w.heap[g]?=some (.cells xs.toArray t (0,0)):=by
 rcases h.2 with ⟨h0,_⟩ | ⟨g',cap,cur,hv,_,hg,_,_,hs,ht⟩
 ·cases h0
 ·injection hv with e1 e2 e3
  injection e1 with e1
  injection e1 with e4
  subst e4 e3;rw [hg,<- ht,List.take_of_length_le (by simp [hs])]
theorem node_put {n:Nat}{base g m:Nat}{xs:List Value}{w:World}(ho:w.ownsRow base 82 1 (.slice (some ⟨g,0,none⟩) m m) m xs)(hx:∀ u∈xs,u=.nilIface∨∃ y,OkT n y/\NodeT n w u y)(i:Nat)(u':Value) :
  ∀ (j:Nat),j<=n->∀ {v:Value} {x:NdT j},NodeT j w v x->OkT j x->NodeT j (w.setCell ⟨g,i,none⟩ u') v x:=by
 have hgw:=own_list ho;have hgr:=grown_cell w g i u';have hfr:FrX ScQ w (w.setCell ⟨g,i,none⟩ u'):=(FrX.refl ScQ w).row hgr (fun b e=>.inr ⟨82,by cases e;exact ⟨_,_,hgw⟩,by decide⟩);intro j
 induction j with
 | zero =>
  intro _ v x h _;obtain ⟨b,a,k,c,h1,h2,h3⟩:=h;exact ⟨b,a,k,c,h1,hfr.keep _ _ _ _ (by decide) h2,h3.keptS (by decide) (by decide) (by decide) hfr⟩
 | succ j ih =>
  intro hj v x h ok;obtain ⟨b,a,k,c,sa,sm,sc,h1,h2,h3,h4⟩:=h;refine ⟨b,a,k,c,sa,sm,sc,h1,hfr.keep _ _ _ _ (by decide) h2,?_,h4.keptS (by decide) (by decide) hfr⟩;have p1:0<(BnT.row (T:=NdT j) x).ns.length:=List.length_pos_iff.2 ok.1;have e1:(BnT.row (T:=NdT j) x).ns[0]?=some ((BnT.row (T:=NdT j) x).ns[0]'p1):=List.getElem?_eq_getElem p1;have hn1:NsT j w a k c (BnT.row (T:=NdT j) x).ns:=h3;obtain ⟨g',off,u,ea,c1,k1⟩:=hn1.node e1
  have hne:g'≠g:=fun e=>by
   subst e
   have hu:u∈xs:=by
    rw [cell_of_row w g' (off+0) _ _ (0,0) hgw] at c1;have:xs[off+0]?=some u:=by simpa using c1
    exact List.mem_of_getElem? this
   rcases hx u hu with rfl | ⟨y,oy,hy⟩
   ·obtain ⟨T,b',e⟩:=k1.one
    cases e
   ·have:=node_uniq j n k1 hy (ok.2.1 _ (List.mem_of_getElem? e1)) oy
    omega
  obtain ⟨es,he1,he2⟩:=h3.ex;refine ⟨es,⟨he1.len,he1.cap,he1.c2,he1.nil,he1.pl,he1.sz,he1.one,fun r e he=>?_⟩,⟨he2.len,fun r e y q1 q2=>?_⟩⟩
  ·obtain ⟨b',off',e5,t5,c5⟩:=he1.cell r e he
   rw [ea] at e5;simp only [Option.some.injEq,Addr.mk.injEq,and_true] at e5;obtain ⟨rfl,rfl⟩:=e5;have hkb:(w.setCell ⟨g,i,none⟩ u').heap[g']?=w.heap[g']?:=heap_setCell_other w ⟨g,i,none⟩ g' u' (fun e=>hne e);obtain ⟨cur,z,t6⟩:=t5;exact ⟨g',off,ea,⟨cur,z,by rw [hkb];exact t6⟩,fun f v hv=>by rw [World.cell?_of_block hkb];exact c5 f v hv⟩
  ·obtain ⟨u1,e6,k6⟩:=he2.el r e y q1 q2
   exact ⟨u1,e6,ih (by omega) k6 (ok.2.1 y (List.mem_of_getElem? q2))⟩
structure RnR (n:Nat)(w0 w wr:World)(q g m k:Nat)(L:List (NdT n))(l:List Int)(us:List Value):Prop where
 own:wr.ownsRow w.heap.size 82 1 (.slice (some ⟨g,0,none⟩) m m) m (us++List.replicate (m - k) .nilIface)
 len:us.length=k
 el:∀ (i:Nat) (u:Value) (y:NdT n),us[i]?=some u->(numL (numT n) (frT n) L l)[i]?=some y->NodeT n wr u y
 nx:NxL w0 wr q (l.drop (sumT (frT n) (L.take k)))
 gr:w.grownBy wr (some q)
theorem set_rep {us:List Value}{m k:Nat}(u:Value)(hl:us.length=k)(hk:k<m):(us++List.replicate (m - k) Value.nilIface).set k u=(us++[u])++List.replicate (m - (k+1)) Value.nilIface:=by
 rw [List.set_append,if_neg (by omega),hl,Nat.sub_self,show m - k=(m - (k+1))+1 by omega,List.replicate_succ,List.set_cons_zero,List.append_assoc]
 rfl
theorem RnR.put {n:Nat}{w0 w wr w5:World}{q g m k:Nat}{L:List (NdT n)}{l:List Int}{us:List Value}(h:RnR n w0 w wr q g m k L l us)(hk:k<m)(hL:L.length=m)(ok:∀ x∈L,OkT n x){x:NdT n}(hx:L[k]?=some x){u:Value} (hu:NodeT n w5 u (numT n x (l.drop (sumT (frT n) (L.take k))))) (hX:NxL w0 w5 q ((l.drop (sumT (frT n) (L.take k))).drop (frT n x))) (hg:wr.grownBy w5 (some q)) (hw:w0.heap.size<=w.heap.size) (hq:∃ t,TgT wr q t/\t≠82) :
  RnR n w0 w (w5.setCell ⟨g,k,none⟩ u) q g m (k+1) L l (us++[u])/\w5.grownBy (w5.setCell ⟨g,k,none⟩ u) (some g):=by
 have hfr:=h.nx.fr hg
 have o5:w5.ownsRow w.heap.size 82 1 (.slice (some ⟨g,0,none⟩) m m) m (us++List.replicate (m - k) .nilIface):=h.own.kept hg (.inr (fun e=>by
  simp only [Value.ownBlock,Option.some.injEq] at e;subst e;obtain ⟨t,⟨cur,z,h1⟩,h2⟩:=hq;rw [own_list h.own] at h1;simp only [Option.some.injEq,Obj.cells.injEq] at h1;exact h2 h1.2.1.symm))
 have hgl:=(o5.lt g rfl);obtain ⟨o6,g6⟩:=o5.stored k u;rw [set_rep u h.len hk] at o6
 have hnum:∀ (i:Nat) (y:NdT n),(numL (numT n) (frT n) L l)[i]?=some y->OkT n y:=fun i y hy=>by
  obtain ⟨z,m',hz,rfl⟩:=numL_mem (List.mem_of_getElem? hy);exact ok_num _ (ok z hz)
 have e5:∀ (i:Nat) (v:Value) (y:NdT n),us[i]?=some v->(numL (numT n) (frT n) L l)[i]?=some y->NodeT n w5 v y:=fun i v y h1 h2=>NodeT.keptX n (h.el i v y h1 h2) hfr
 have hall:∀ v∈us++List.replicate (m - k) Value.nilIface,v=.nilIface∨∃ y,OkT n y/\NodeT n w5 v y:=fun v hv=>by
  rcases List.mem_append.1 hv with hv | hv
  ·obtain ⟨i,hi⟩:=List.getElem?_of_mem hv
   have hil:=(List.getElem?_eq_some_iff.1 hi).1;have hyl:i<(numL (numT n) (frT n) L l).length:=by rw [numL_len];have:=h.len;omega
   exact .inr ⟨_,hnum i _ (List.getElem?_eq_getElem hyl),e5 i v _ hi (List.getElem?_eq_getElem hyl)⟩
  ·exact .inl (List.eq_of_mem_replicate hv)
 refine ⟨⟨o6,by rw [List.length_append,h.len];rfl,fun i v y h1 h2=>?_,?_,?_⟩,g6⟩
 ·by_cases hi:i<us.length
  ·rw [List.getElem?_append_left hi] at h1
   exact node_put o5 hall k u n (Nat.le_refl _) (e5 i v y h1 h2) (hnum i y h2)
  ·have hj:=(List.getElem?_eq_some_iff.1 h1).1
   rw [List.length_append,List.length_singleton] at hj;obtain rfl:i=us.length:=by omega
   simp at h1;subst h1;rw [h.len,numL_get (numT n) (frT n) L l k x hx] at h2;cases h2;exact node_put o5 hall k u n (Nat.le_refl _) hu (ok_num _ (ok x (List.mem_of_getElem? hx)))
 ·rw [sumT_takeS (frT n) hx,<- List.drop_drop]
  exact hX.kept g6 (fun b e=>by cases e;omega)
 ·exact grown_newR (gZq h.gr hg) g6 hgl.1
theorem RnR.ns {n:Nat}{w0 w wr:World}{q g m:Nat}{L:List (NdT n)}{l:List Int}{us:List Value}(h:RnR n w0 w wr q g m m L l us)(hL:L.length=m):NsT n wr (some ⟨g,0,none⟩) m m (numL (numT n) (frT n) L l):=by
 have ho:=h.own;rw [Nat.sub_self,List.replicate_zero,List.append_nil] at ho;have hlen:(us.map fun u=>[u]).length=(numL (numT n) (frT n) L l).length:=by rw [List.length_map,numL_len,h.len,hL]
 have hf:(us.map fun u=>[u]).flatten=us:=by
  clear h ho hlen
  induction us with
  | nil=>rfl
  | cons u us ih=>rw [List.map_cons,List.flatten_cons,ih];rfl
 rw [<- hf] at ho
 have hel:ElyT (InT n wr) (us.map fun u=>[u]) (numL (numT n) (frT n) L l):=⟨hlen,fun i e y h1 h2=>by
  rw [List.getElem?_map,Option.map_eq_some_iff] at h1;obtain ⟨u,h3,rfl⟩:=h1;exact ⟨u,rfl,h.el i u y h3 h2⟩⟩
 obtain ⟨a,c,e,k⟩:=EsT.of_owns ho (by decide) (fun e he=>by obtain ⟨u,_,rfl⟩:=List.mem_map.1 he;rfl) (fun e he v hv=>by
  obtain ⟨i,hi⟩:=List.getElem?_of_mem he;have hil:i<(numL (numT n) (frT n) L l).length:=by have:=(List.getElem?_eq_some_iff.1 hi).1;omega
  obtain ⟨u,rfl,k⟩:=hel.el i e _ hi (List.getElem?_eq_getElem hil);obtain ⟨T,b',rfl⟩:=k.one;rw [List.mem_singleton.1 hv]
  rfl)
 simp only [Value.slice.injEq,true_and] at e;obtain ⟨rfl,rfl⟩:=e;exact ⟨_,k,hel⟩
theorem mL_numbered (v:Value)(w:World):(method 312 118 v "coppice/tree.numbered").run Tryz.prog w=.ok (151,v) w:=by kernel_rfl
theorem mB_numbered (v:Value)(w:World):(method 312 134 v "coppice/tree.numbered").run Tryz.prog w=.ok (163,v) w:=by kernel_rfl
def NrwP (n:Nat)(w0 w:World)(q m:Nat)(L:List (NdT n))(sa:Option Addr)(sm sc:Nat)(l:List Int)(en:Ending)(w':World):Prop:=∃ g,en=.returned (.agg #[.slice (some ⟨g,0,none⟩) m m,.slice sa sm sc])/\NsT n w' (some ⟨g,0,none⟩) m m (numL (numT n) (frT n) L l)/\NxL w0 w' q (l.drop (sumT (frT n) L))/\w.grownBy w' (some q)
def RnC (n:Nat):Prop:=∀ (L:List (NdT n)) (a:Option Addr) (m c:Nat) (sa:Option Addr) (sm sc:Nat) (q:Nat) (l:List Int) (w0 w:World),NsT n w a m c L->m<=5000->(∀ x∈L,OkT n x)->NxL w0 w q l->sumT (frT n) L<=l.length ->
  Calls Tryz.prog 50 #[.agg #[.slice a m c,.slice sa sm sc],.func (.func 49) #[] #[.pointer (some ⟨q,0,none⟩)]] w fun en w'=>NrwP n w0 w q m L sa sm sc l en w'
def BnC (n:Nat):Prop:=∀ (b q:Nat) (x:NdT (n+1)) (l:List Int) (w0 w:World),NodeT (n+1) w (.iface 134 (.pointer (some ⟨b,0,none⟩))) x->OkT (n+1) x->NxL w0 w q l->frT (n+1) x<=l.length ->
  Calls Tryz.prog 163 #[.pointer (some ⟨b,0,none⟩),.func (.func 49) #[] #[.pointer (some ⟨q,0,none⟩)]] w fun en w'=>NumP (n+1) w0 w q x l en w'
theorem rnum_L :RnC 0:=by
 intro L a m c sa sm sc q l w0 w hr hm ox hX hq;obtain ⟨i0,hi,hz0,hz1,hz2⟩:=info_parts info_tnode;have ln:=hr.len;have HR:=hZq hr;have OX:=hZq ox;have HX:=hZq hX;have WS:=hZq hX.lt;have h1:=heap_at0 w #[.slice a m c,.slice sa sm sc] 77;have g1:=World.grownBy_alloc w (.cells #[.slice a m c,.slice sa sm sc] 77) none;have h2:=heap_at1 w (.cells #[.slice a m c,.slice sa sm sc] 77) #[.slice none 0 0,.slice none 0 0] 77;have g2:=grown_al g1 (.cells #[.slice none 0 0,.slice none 0 0] 77);have h1':((w.alloc (.cells #[.slice a m c,.slice sa sm sc] 77)).alloc (.cells #[.slice none 0 0,.slice none 0 0] 77)).heap[w.heap.size]?=some (.cells #[.slice a m c,.slice sa sm sc] 77 (0,0)):=heap_old h1;have k0:=cell_heap (i:=0) h1' rfl;have k1:=cell_heap (i:=1) h1' rfl;have s2:((w.alloc (.cells #[.slice a m c,.slice sa sm sc] 77)).alloc (.cells #[.slice none 0 0,.slice none 0 0] 77)).heap.size=w.heap.size+2:=by simp
 have S2:=hZq s2;have H1:=hZq h1';have H2:=hZq h2;have G2:=hZq g2;clear hr ox hX h1 g1 h2 g2 h1' s2;go_enter Tryz.func50,Tryz.ntmps50;go_upto_region 1 with fail
 generalize hW:(w.alloc (.cells #[.slice a m c,.slice sa sm sc] 77)).alloc (.cells #[.slice none 0 0,.slice none 0 0] 77)=w2 at *;clear hW
 go_wp2_with (at_make;refine wpList_make_full _ rfl _ _ 75 rfl w2.heap.size 82 i0 .nilIface 1 Tryz.underlying75 hi hz0 hz1 _ _ _ _ m rfl rfl rfl rfl ?b2 ?b3 (Nat.le_refl _) ?_)
 case b2=>rw [hz2];omega
 case b3=>unfold maxLen;omega
 intro w3 ho3 hg3;obtain ⟨g,hg⟩:∃ g,w2.heap.size=g:=⟨_,rfl⟩;rw [hg] at ho3 ⊢;have G3:=hZq (gZq G2.out hg3);have B1:=hZq (heap_kept H1.out hg3);have B2:=hZq (heap_kept H2.out hg3);have k0:=cell_heap (i:=0) B1.out rfl
 have R3:Hid (RnR 0 w0 w w3 q g m 0 L l []):=⟨by
  have ho4:=ho3
  (try rw [Nat.mul_one] at ho4)
  (try rw [show (Value.nilIface).cells=#[Value.nilIface] from rfl] at ho4)
  rw [toList_madeCells_one] at ho4;simpa using own_base ho4 (by have:=S2.out;omega),rfl,fun i u y h=>by simp at h,by
  simp only [List.take_zero,sumT,List.drop_zero];exact HX.out.kept G3.out (fun g e=>by cases e),grown_any G3.out⟩
 have hgw:w.heap.size+2<=g:=by have:=S2.out;omega
 clear ho3 hg3 hg G2
 go_wp2_with fail
 go_loopw [6,7,15] (fun _ _ si wr=>∃ (k:Nat) (us:List Value),k<=m/\si=.int .i64 k/\RnR 0 w0 w wr q g m k L l us/\wr.heap[w.heap.size]?=some (.cells #[.slice a m c,.slice sa sm sc] 77 (0,0))/\wr.heap[w.heap.size+1]?=some (.cells #[.slice none 0 0,.slice none 0 0] 77 (0,0))) (fun _ _ si _=>m - (intOf si).toNat)
 case atStart=>exact ⟨0,[],Nat.zero_le _,rfl,R3.out,B1.out,B2.out⟩
 case round =>
  obtain ⟨k,us,hk,rfl,hrr,hb1,hb2⟩:=hrel;have RR:=hZq hrr;have B1:=hZq hb1;have B2:=hZq hb2;clear hrr hb1 hb2
  by_cases hlt:k<m
  ·have hx:L[k]?=some (L[k]'(by omega)):=List.getElem?_eq_getElem (by omega)
   revert hx
   generalize L[k]'(by omega)=x;intro hx;obtain ⟨g5,off,u,rfl,c1,hu⟩:=HR.out.node hx;obtain ⟨b1,rfl⟩:=hu.atL;have hfr:FrN w wr:=HX.out.fr RR.out.gr
   have d1:wr.cell? ⟨g5,off+k,none⟩=some (.iface 118 (.pointer (some ⟨b1,0,none⟩))):=by
    have ht:=HX.out.tg
    have hne:some g5≠some q:=fun e=>by
     obtain ⟨es,hes,_⟩:=HR.out.ex;obtain ⟨b9,o9,e9,⟨cur9,z9,t9⟩,_⟩:=hes.cell k _ (List.getElem?_eq_getElem (by have:=hes.len;omega));simp only [Option.some.injEq,Addr.mk.injEq,and_true] at e9;obtain ⟨rfl,rfl⟩:=e9;obtain ⟨cur8,z8,t8⟩:=ht;cases e;rw [t9] at t8;simp only [Option.some.injEq,Obj.cells.injEq] at t8;exact absurd t8.2.1 (by decide)
    exact RR.out.gr.cell c1 hne
   have t2:=sumT_take (frT 0) (L:=L) (k+1);have t1:=sumT_takeS (frT 0) hx;have KC:=hZq (lnumbered_any b1 q x (l.drop (sumT (frT 0) (L.take k))) w0 wr (NodeT.keptX 0 hu hfr) (OX.out x (List.mem_of_getElem? hx)) RR.out.nx (by rw [List.length_drop];omega));have HX5:=hZq hx;have i0:(0:Int)<=(k:Int):=by omega
   have i1:(k:Int)<(m:Int):=by omega
   have hme:=mL_numbered;have TQ:=hZq RR.out.nx.tg;have gl:=(RR.out.own.lt g rfl);clear hx hu c1 t1 t2 hfr
   go_wp2_with fail
   refine KC.out.mono ?_;rintro en w5 ⟨b5,rfl,hn5,hx5,hg5⟩;have PU:=hZq (RR.out.put hlt ln OX.out HX5.out hn5 hx5 hg5 (by have:=WS.out;omega) ⟨52,TQ.out,by decide⟩)
   have o5:w5.ownsRow w.heap.size 82 1 (.slice (some ⟨g,0,none⟩) m m) m (us++List.replicate (m - k) .nilIface):=RR.out.own.kept hg5 (.inr (fun e=>by
    simp only [Value.ownBlock,Option.some.injEq] at e;subst e;obtain ⟨cur,z,t8⟩:=TQ.out;rw [own_list RR.out.own] at t8;simp only [Option.some.injEq,Obj.cells.injEq] at t8;exact absurd t8.2.1 (by decide)))
   have f5:=o5.frozenAt k
   obtain ⟨u0,c5⟩:∃ u0,w5.cell? ⟨g,k,none⟩=some u0:=by
    rw [o5.cellAt k (by omega)];exact ⟨_,List.getElem?_eq_getElem (by rw [List.length_append,List.length_replicate];have:=RR.out.len;omega)⟩
   have B5:Hid (w5.heap[w.heap.size]?=some (.cells #[.slice (some ⟨g5,off,none⟩) m c,.slice sa sm sc] 77 (0,0))/\w5.heap[w.heap.size+1]?=some (.cells #[.slice none 0 0,.slice none 0 0] 77 (0,0))):=by
    have:=WS.out;refine ⟨?_,?_⟩
    ·rw [hg5.block _ (Array.getElem?_eq_some_iff.1 B1.out).1 (by simp;omega)]
     exact B1.out
    ·rw [hg5.block _ (Array.getElem?_eq_some_iff.1 B2.out).1 (by simp;omega)]
     exact B2.out
   clear hn5 hx5 hg5 KC o5 d1;go_wp2;refine ⟨⟨k+1,us++[.iface (tyN 0) (.pointer (some ⟨b5,0,none⟩))],by omega,by go_num,PU.out.1,?_,?_⟩,?_⟩
   ·rw [PU.out.2.block _ (Array.getElem?_eq_some_iff.1 B5.out.1).1 (by simp;omega)]
    exact B5.out.1
   ·rw [PU.out.2.block _ (Array.getElem?_eq_some_iff.1 B5.out.2).1 (by simp;omega)]
    exact B5.out.2
   ·simp only [intOf];omega
  ·have hk2:k=m:=by omega
   subst hk2;have ht:L.take k=L:=List.take_of_length_le (by omega);have X1:=hZq RR.out.nx;rw [ht] at X1;have N1:=hZq (RR.out.ns ln);have i1:¬ (k:Int)<(k:Int):=by omega
   have k1:=cell_heap (i:=1) B1.out rfl;have z0:=frozen_of_row wr (w.heap.size+1) 0 _ _ B2.out;have z1:=frozen_of_row wr (w.heap.size+1) 1 _ _ B2.out;have y0:=cell_heap (i:=0) B2.out rfl;have y1:=cell_heap (i:=1) B2.out rfl;have GR:=hZq RR.out.gr;have b1:=heap_setCell_same wr (w.heap.size+1) 0 _ _ (.slice (some ⟨g,0,none⟩) k k) B2.out;have b2:=heap_setCell_same _ (w.heap.size+1) 1 _ _ (.slice sa sm sc) b1;have BB:=hZq b2;have F1:=hZq ((FrT.set (i:=0) (v:=.slice (some ⟨g,0,none⟩) k k) B2.out (by decide)).trans (FrT.set (i:=1) (v:=.slice sa sm sc) b1 (by decide)));have GG:=hZq (gZq (grown_cell wr (w.heap.size+1) 0 (.slice (some ⟨g,0,none⟩) k k)) (grown_cell _ (w.heap.size+1) 1 (.slice sa sm sc)));clear ht b1 b2;go_wp2;refine bodyPost_ret (results_row rfl _ _ (w.heap.size+1) (.slice (some ⟨g,0,none⟩) k k) (.slice sa sm sc) rfl BB.out) rfl ?_;exact ⟨g,rfl,N1.out.kept F1.out,X1.out.kept GG.out (fun b e=>by cases e;have:=WS.out;omega),grown_newR GR.out GG.out (by omega)⟩
theorem rnum_B {n:Nat}(hB:BnC n):RnC (n+1):=by
 intro L a m c sa sm sc q l w0 w hr hm ox hX hq;obtain ⟨i0,hi,hz0,hz1,hz2⟩:=info_parts info_tnode;have ln:=hr.len;have HR:=hZq hr;have OX:=hZq ox;have HX:=hZq hX;have WS:=hZq hX.lt;have h1:=heap_at0 w #[.slice a m c,.slice sa sm sc] 77;have g1:=World.grownBy_alloc w (.cells #[.slice a m c,.slice sa sm sc] 77) none;have h2:=heap_at1 w (.cells #[.slice a m c,.slice sa sm sc] 77) #[.slice none 0 0,.slice none 0 0] 77;have g2:=grown_al g1 (.cells #[.slice none 0 0,.slice none 0 0] 77);have h1':((w.alloc (.cells #[.slice a m c,.slice sa sm sc] 77)).alloc (.cells #[.slice none 0 0,.slice none 0 0] 77)).heap[w.heap.size]?=some (.cells #[.slice a m c,.slice sa sm sc] 77 (0,0)):=heap_old h1;have k0:=cell_heap (i:=0) h1' rfl;have k1:=cell_heap (i:=1) h1' rfl;have s2:((w.alloc (.cells #[.slice a m c,.slice sa sm sc] 77)).alloc (.cells #[.slice none 0 0,.slice none 0 0] 77)).heap.size=w.heap.size+2:=by simp
 have S2:=hZq s2;have H1:=hZq h1';have H2:=hZq h2;have G2:=hZq g2;clear hr ox hX h1 g1 h2 g2 h1' s2;go_enter Tryz.func50,Tryz.ntmps50;go_upto_region 1 with fail
 generalize hW:(w.alloc (.cells #[.slice a m c,.slice sa sm sc] 77)).alloc (.cells #[.slice none 0 0,.slice none 0 0] 77)=w2 at *;clear hW
 go_wp2_with (at_make;refine wpList_make_full _ rfl _ _ 75 rfl w2.heap.size 82 i0 .nilIface 1 Tryz.underlying75 hi hz0 hz1 _ _ _ _ m rfl rfl rfl rfl ?b2 ?b3 (Nat.le_refl _) ?_)
 case b2=>rw [hz2];omega
 case b3=>unfold maxLen;omega
 intro w3 ho3 hg3;obtain ⟨g,hg⟩:∃ g,w2.heap.size=g:=⟨_,rfl⟩;rw [hg] at ho3 ⊢;have G3:=hZq (gZq G2.out hg3);have B1:=hZq (heap_kept H1.out hg3);have B2:=hZq (heap_kept H2.out hg3);have k0:=cell_heap (i:=0) B1.out rfl
 have R3:Hid (RnR (n+1) w0 w w3 q g m 0 L l []):=⟨by
  have ho4:=ho3
  (try rw [Nat.mul_one] at ho4)
  (try rw [show (Value.nilIface).cells=#[Value.nilIface] from rfl] at ho4)
  rw [toList_madeCells_one] at ho4;simpa using own_base ho4 (by have:=S2.out;omega),rfl,fun i u y h=>by simp at h,by
  simp only [List.take_zero,sumT,List.drop_zero];exact HX.out.kept G3.out (fun g e=>by cases e),grown_any G3.out⟩
 have hgw:w.heap.size+2<=g:=by have:=S2.out;omega
 clear ho3 hg3 hg G2
 go_wp2_with fail
 go_loopw [6,7,15] (fun _ _ si wr=>∃ (k:Nat) (us:List Value),k<=m/\si=.int .i64 k/\RnR (n+1) w0 w wr q g m k L l us/\wr.heap[w.heap.size]?=some (.cells #[.slice a m c,.slice sa sm sc] 77 (0,0))/\wr.heap[w.heap.size+1]?=some (.cells #[.slice none 0 0,.slice none 0 0] 77 (0,0))) (fun _ _ si _=>m - (intOf si).toNat)
 case atStart=>exact ⟨0,[],Nat.zero_le _,rfl,R3.out,B1.out,B2.out⟩
 case round =>
  obtain ⟨k,us,hk,rfl,hrr,hb1,hb2⟩:=hrel;have RR:=hZq hrr;have B1:=hZq hb1;have B2:=hZq hb2;clear hrr hb1 hb2
  by_cases hlt:k<m
  ·have hx:L[k]?=some (L[k]'(by omega)):=List.getElem?_eq_getElem (by omega)
   revert hx
   generalize L[k]'(by omega)=x;intro hx;obtain ⟨g5,off,u,rfl,c1,hu⟩:=HR.out.node hx;obtain ⟨b1,rfl⟩:=hu.atB;have hfr:FrN w wr:=HX.out.fr RR.out.gr
   have d1:wr.cell? ⟨g5,off+k,none⟩=some (.iface 134 (.pointer (some ⟨b1,0,none⟩))):=by
    have ht:=HX.out.tg
    have hne:some g5≠some q:=fun e=>by
     obtain ⟨es,hes,_⟩:=HR.out.ex;obtain ⟨b9,o9,e9,⟨cur9,z9,t9⟩,_⟩:=hes.cell k _ (List.getElem?_eq_getElem (by have:=hes.len;omega));simp only [Option.some.injEq,Addr.mk.injEq,and_true] at e9;obtain ⟨rfl,rfl⟩:=e9;obtain ⟨cur8,z8,t8⟩:=ht;cases e;rw [t9] at t8;simp only [Option.some.injEq,Obj.cells.injEq] at t8;exact absurd t8.2.1 (by decide)
    exact RR.out.gr.cell c1 hne
   have t2:=sumT_take (frT (n+1)) (L:=L) (k+1);have t1:=sumT_takeS (frT (n+1)) hx;have KC:=hZq (hB b1 q x (l.drop (sumT (frT (n+1)) (L.take k))) w0 wr (NodeT.keptX (n+1) hu hfr) (OX.out x (List.mem_of_getElem? hx)) RR.out.nx (by rw [List.length_drop];omega));have HX5:=hZq hx;have i0:(0:Int)<=(k:Int):=by omega
   have i1:(k:Int)<(m:Int):=by omega
   have hme:=mB_numbered;have TQ:=hZq RR.out.nx.tg;have gl:=(RR.out.own.lt g rfl);clear hx hu c1 t1 t2 hfr
   go_wp2_with fail
   refine KC.out.mono ?_;rintro en w5 ⟨b5,rfl,hn5,hx5,hg5⟩;have PU:=hZq (RR.out.put hlt ln OX.out HX5.out hn5 hx5 hg5 (by have:=WS.out;omega) ⟨52,TQ.out,by decide⟩)
   have o5:w5.ownsRow w.heap.size 82 1 (.slice (some ⟨g,0,none⟩) m m) m (us++List.replicate (m - k) .nilIface):=RR.out.own.kept hg5 (.inr (fun e=>by
    simp only [Value.ownBlock,Option.some.injEq] at e;subst e;obtain ⟨cur,z,t8⟩:=TQ.out;rw [own_list RR.out.own] at t8;simp only [Option.some.injEq,Obj.cells.injEq] at t8;exact absurd t8.2.1 (by decide)))
   have f5:=o5.frozenAt k
   obtain ⟨u0,c5⟩:∃ u0,w5.cell? ⟨g,k,none⟩=some u0:=by
    rw [o5.cellAt k (by omega)];exact ⟨_,List.getElem?_eq_getElem (by rw [List.length_append,List.length_replicate];have:=RR.out.len;omega)⟩
   have B5:Hid (w5.heap[w.heap.size]?=some (.cells #[.slice (some ⟨g5,off,none⟩) m c,.slice sa sm sc] 77 (0,0))/\w5.heap[w.heap.size+1]?=some (.cells #[.slice none 0 0,.slice none 0 0] 77 (0,0))):=by
    have:=WS.out;refine ⟨?_,?_⟩
    ·rw [hg5.block _ (Array.getElem?_eq_some_iff.1 B1.out).1 (by simp;omega)]
     exact B1.out
    ·rw [hg5.block _ (Array.getElem?_eq_some_iff.1 B2.out).1 (by simp;omega)]
     exact B2.out
   clear hn5 hx5 hg5 KC o5 d1;go_wp2;refine ⟨⟨k+1,us++[.iface (tyN (n+1)) (.pointer (some ⟨b5,0,none⟩))],by omega,by go_num,PU.out.1,?_,?_⟩,?_⟩
   ·rw [PU.out.2.block _ (Array.getElem?_eq_some_iff.1 B5.out.1).1 (by simp;omega)]
    exact B5.out.1
   ·rw [PU.out.2.block _ (Array.getElem?_eq_some_iff.1 B5.out.2).1 (by simp;omega)]
    exact B5.out.2
   ·simp only [intOf];omega
  ·have hk2:k=m:=by omega
   subst hk2;have ht:L.take k=L:=List.take_of_length_le (by omega);have X1:=hZq RR.out.nx;rw [ht] at X1;have N1:=hZq (RR.out.ns ln);have i1:¬ (k:Int)<(k:Int):=by omega
   have k1:=cell_heap (i:=1) B1.out rfl;have z0:=frozen_of_row wr (w.heap.size+1) 0 _ _ B2.out;have z1:=frozen_of_row wr (w.heap.size+1) 1 _ _ B2.out;have y0:=cell_heap (i:=0) B2.out rfl;have y1:=cell_heap (i:=1) B2.out rfl;have GR:=hZq RR.out.gr;have b1:=heap_setCell_same wr (w.heap.size+1) 0 _ _ (.slice (some ⟨g,0,none⟩) k k) B2.out;have b2:=heap_setCell_same _ (w.heap.size+1) 1 _ _ (.slice sa sm sc) b1;have BB:=hZq b2;have F1:=hZq ((FrT.set (i:=0) (v:=.slice (some ⟨g,0,none⟩) k k) B2.out (by decide)).trans (FrT.set (i:=1) (v:=.slice sa sm sc) b1 (by decide)));have GG:=hZq (gZq (grown_cell wr (w.heap.size+1) 0 (.slice (some ⟨g,0,none⟩) k k)) (grown_cell _ (w.heap.size+1) 1 (.slice sa sm sc)));clear ht b1 b2;go_wp2;refine bodyPost_ret (results_row rfl _ _ (w.heap.size+1) (.slice (some ⟨g,0,none⟩) k k) (.slice sa sm sc) rfl BB.out) rfl ?_;exact ⟨g,rfl,N1.out.kept F1.out,X1.out.kept GG.out (fun b e=>by cases e;have:=WS.out;omega),grown_newR GR.out GG.out (by omega)⟩
theorem bnum_any {n:Nat}(hR:RnC n):BnC n:=by
 intro b q x l w0 w hx ox hX hq;have hx0:=hx;obtain ⟨b',a,m,c,sa,sm,sc,e,hb,hns,hss⟩:=hx;simp only [Value.iface.injEq,Value.pointer.injEq,Option.some.injEq,Addr.mk.injEq,true_and,and_true] at e;subst e;have k0:=cell_heap (i:=0) hb rfl;have k1:=cell_heap (i:=1) hb rfl;have k2:=cell_heap (i:=2) hb rfl
 by_cases h0:BnT.no (T:=NdT n) x=0
 ·have ef:frT (n+1) x=1+sumT (frT n) (BnT.row (T:=NdT n) x).ns:=by rw [frT,if_pos h0]
  have en:numT (n+1) x l=(⟨l.getD (sumT (frT n) (BnT.row (T:=NdT n) x).ns) 0,⟨numL (numT n) (frT n) (BnT.row (T:=NdT n) x).ns l,(BnT.row (T:=NdT n) x).ss⟩⟩:BnT (NdT n)):=by rw [numT,if_pos h0]
  have fw:=seps_few ox.2.2.2.1;have ln3:(BnT.row (T:=NdT n) x).ns.length=m:=hns.len;have sl3:(BnT.row (T:=NdT n) x).ns.length=(BnT.row (T:=NdT n) x).ss.length+1:=lens_ok ox;rw [ef] at hq;have RC:=hZq (hR (BnT.row (T:=NdT n) x).ns a m c sa sm sc q l w0 w hns (by omega) ox.2.1 hX (by omega));have HS:=hZq hss;have EN:=hZq en;have EF:=hZq ef;have HXF:=hZq (fun w' (h:w.grownBy w' (some q))=>hX.fr h);rw [h0] at k0;obtain ⟨z,hz⟩:∃ z,l.drop (sumT (frT n) (BnT.row (T:=NdT n) x).ns)=z::l.drop (sumT (frT n) (BnT.row (T:=NdT n) x).ns+1):=⟨_,drop_cons (by omega)⟩
  have hzd:l.getD (sumT (frT n) (BnT.row (T:=NdT n) x).ns) 0=z:=by
   have:=drop_cons (a:=l) (i:=sumT (frT n) (BnT.row (T:=NdT n) x).ns) (by omega);rw [hz] at this;exact (List.cons.inj this).1.symm
  have HZ:=hZq hz;have HD:=hZq hzd;have WS:=hZq hX.lt;clear hb hns hss ox hX hx0 ef en fw ln3 sl3 hz hzd;go_enter Tryz.func163,Tryz.ntmps163
  go_wp2_with fail
  refine RC.out.mono ?_;rintro en w3 ⟨g,rfl,hn3,hx3,hg3⟩;rw [HZ.out] at hx3;have N3:=hZq hn3;have G3:=hZq hg3;have ga:=World.grownBy_alloc w3 (.cells #[.slice (some ⟨g,0,none⟩) m m,.slice sa sm sc] 77) none;have B4:=hZq (heap_at0 w3 #[.slice (some ⟨g,0,none⟩) m m,.slice sa sm sc] 77);have X4:=hZq (hx3.kept ga (fun b e=>by cases e));have G4:=hZq ga;have sw3:=hg3.size;clear hn3 hx3 hg3 ga RC;go_upto_region 4 with fail
  generalize w3.alloc (.cells #[.slice (some ⟨g,0,none⟩) m m,.slice sa sm sc] 77)=w4 at *;obtain ⟨P,hP⟩:∃ P,w3.heap.size=P:=⟨_,rfl⟩;rw [hP] at B4 ⊢;have p0:=cell_heap (i:=0) B4.out rfl;have p1:=cell_heap (i:=1) B4.out rfl;have HP:=hZq hP;clear hP k0 k1 k2;refine wp_region_noPanic ?_;refine wp_region_held_drew (S:=(fun w'=>w'.cell? ⟨P,0,none⟩=some (.slice (some ⟨g,0,none⟩) m m)/\w'.cell? ⟨P,1,none⟩=some (.slice sa sm sc))) (by kernel_rfl) ⟨p0,p1⟩ (fun hHeld=>?_);have XD:Hid (NxL w0 w4.drew q (z::l.drop (sumT (frT n) (BnT.row (T:=NdT n) x).ns+1))):=X4.out.kept ((Qt.refl w4).drew.grown none) (fun g e=>by cases e);have GD:=hZq (show w3.grownBy w4.drew none from gZq G4.out ((Qt.refl w4).drew.grown none));generalize w4.drew=wd at *;refine wpAnyH_take (i:=0) (oi:={ dst:=some 19,op:=Go.Op.move (Go.Operand.tmp 1),type:=35,pos:= "branch.go:86",after:=#[],guard:=none }) (v:=?_) rfl (by kernel_rfl) (by kernel_rfl) (by kernel_rfl) (fun _ _ _ h=>h) (Or.inl ⟨by rfl,?_⟩) (by assumption) ?_
  rotate_left
  ·intro w hSw;(try dsimp only at hSw);go_simp;(try with_reducible rfl)
  simp only [Act.put,List.setIfInBounds_toArray,List.set_cons_zero,List.set_cons_succ];refine wpAnyH_take (i:=2) (oi:={ dst:=some 21,op:=Go.Op.load 77 (Go.Operand.tmp 5),type:=77,pos:= "branch.go:86",after:=#[],guard:=none }) (v:=?_) rfl (by kernel_rfl) (by kernel_rfl) (by kernel_rfl) (fun _ _ _ h=>h) (Or.inl ⟨by rfl,?_⟩) (by assumption) ?_
  rotate_left
  ·intro w hSw;(try dsimp only at hSw);go_simp;(try with_reducible rfl)
  simp only [Act.put,List.setIfInBounds_toArray,List.set_cons_zero,List.set_cons_succ];refine wpAnyH_ready (rs:=[1]) (by kernel_rfl) (by simp) ?_;refine AllReadyH.cons (o:={ dst:=some 20,op:=Go.Op.call { callee:=Go.Callee.value (Go.Operand.tmp 19),args:=#[],argTypes:=#[] },type:=3,pos:= "branch.go:86",after:=#[{ on:=0,ground:=Go.Ground.data }],guard:=none }) rfl (fun K2 hK2=>?_) AllReadyH.nil
  go_simp
  refine (next_any q z _ w0 wd XD.out).mono ?_;rintro en w5 ⟨rfl,hx5,hg5⟩;have X5:=hZq hx5;have G5:=hZq hg5;have N5:=hZq (NsT.keptX (NsT.keptX N3.out (FrX.of GD.out)) (XD.out.fr hg5));have hqP:q≠P:=by have:=WS.out;have:=HP.out;omega
  have T5:w5.cell? ⟨P,0,none⟩=some (.slice (some ⟨g,0,none⟩) m m)/\w5.cell? ⟨P,1,none⟩=some (.slice sa sm sc):=⟨hg5.cell hHeld.1 (by simp;omega),hg5.cell hHeld.2 (by simp;omega)⟩;clear hx5 hg5;refine hK2.out _ _ (T5) (fun hHeld=>?_);clear hK2 K2;try simp only [Act.put,List.setIfInBounds_toArray,List.set_cons_zero,List.set_cons_succ]
  refine wpAnyH_take (i:=3) (oi:={ dst:=some 22,op:=Go.Op.build 136 #[(0,Go.Operand.tmp 20),(1,Go.Operand.tmp 21)],type:=136,pos:= "branch.go:86",after:=#[{ on:=1,ground:=Go.Ground.data },{ on:=2,ground:=Go.Ground.data }],guard:=none }) (v:=?_) rfl (by kernel_rfl) (by kernel_rfl) (by kernel_rfl) (fun _ _ _ h=>h) (Or.inl ⟨by rfl,?_⟩) (by assumption) ?_
  rotate_left
  ·intro w hSw;(try dsimp only at hSw);go_simp;(try with_reducible rfl)
  simp only [Act.put,List.setIfInBounds_toArray,List.set_cons_zero,List.set_cons_succ];refine wpAnyH_ready (rs:=[4]) (by kernel_rfl) (by simp) ?_;refine AllReadyH.cons (o:={ dst:=some 23,op:=Go.Op.box 136 (Go.Operand.tmp 22),type:=134,pos:= "branch.go:86",after:=#[{ on:=3,ground:=Go.Ground.data }],guard:=none }) rfl (fun K2 hK2=>?_) AllReadyH.nil
  go_simp
  refine hK2.out _ _ (⟨keep1 T5.1 (World.grownBy_alloc w5 _ none),keep1 T5.2 (World.grownBy_alloc w5 _ none)⟩) (fun hHeld=>?_);clear hK2 K2;try simp only [Act.put,List.setIfInBounds_toArray,List.set_cons_zero,List.set_cons_succ]
  refine wpAnyH_take (i:=5) (oi:={ dst:=some 24,op:=Go.Op.makeInterface 134 (Go.Operand.tmp 23),type:=82,pos:= "branch.go:86",after:=#[{ on:=4,ground:=Go.Ground.data }],guard:=none }) (v:=?_) rfl (by kernel_rfl) (by kernel_rfl) (by kernel_rfl) (fun _ _ _ h=>h) (Or.inl ⟨by rfl,?_⟩) (by assumption) ?_
  rotate_left
  ·intro w hSw;(try dsimp only at hSw);go_simp;(try with_reducible rfl)
  simp only [Act.put,List.setIfInBounds_toArray,List.set_cons_zero,List.set_cons_succ];refine wpAnyH_ready (rs:=[6]) (by kernel_rfl) (by simp) ?_;refine AllReadyH.cons (o:={ dst:=some 4,op:=Go.Op.assign (Go.Operand.tmp 24),type:=82,pos:= "branch.go:86",after:=#[{ on:=5,ground:=Go.Ground.data },{ on:=1,ground:=Go.Ground.chain },{ on:=0,ground:=Go.Ground.phase },{ on:=1,ground:=Go.Ground.phase },{ on:=2,ground:=Go.Ground.phase },{ on:=3,ground:=Go.Ground.phase },{ on:=4,ground:=Go.Ground.phase },{ on:=5,ground:=Go.Ground.phase }],guard:=none }) rfl (fun K2 hK2=>?_) AllReadyH.nil
  go_simp
  refine hK2.out _ _ (hHeld) (fun hHeld=>?_);clear hK2 K2;try simp only [Act.put,List.setIfInBounds_toArray,List.set_cons_zero,List.set_cons_succ]
  refine wpAnyH_done (by kernel_rfl) ?_ _;refine NoPanic.normal ?_;have ga:=World.grownBy_alloc w5 (.cells #[.int .i64 z,.slice (some ⟨g,0,none⟩) m m,.slice sa sm sc] 136) none;have GA:=hZq ga;have S6:=hZq (SsT.kept (SsT.keptX (HXF.out _ (gZq G3.out (gZq (grown_any GD.out) G5.out)) |> fun h=>HS.out.keptX h) (FrX.refl ScN w5)) (FrT.of ga));clear ga;go_wp2;go_ret;unfold NumP;rw [EN.out,EF.out];refine ⟨w5.heap.size,rfl,⟨w5.heap.size,some ⟨g,0,none⟩,m,m,sa,sm,sc,rfl,?_,N5.out.kept (FrT.of GA.out),S6.out⟩,?_,gZq (gZq G3.out (gZq (grown_any GD.out) G5.out)) (grown_any GA.out)⟩
  ·show (w5.alloc _).heap[w5.heap.size]?=_
   rw [HD.out];exact heap_at0 w5 _ _
  ·rw [Nat.add_comm]
   exact X5.out.kept GA.out (fun g e=>by cases e)
 ·have ef:frT (n+1) x=0:=by rw [frT,if_neg h0]
  have en:numT (n+1) x l=x:=by rw [numT,if_neg h0]
  have hn:(BnT.no (T:=NdT n) x != 0)=true:=by simp [h0]
  have HX:=hZq hX;have HN:=hZq hx0;clear hb hns hss hx0 hX k1 k2;go_enter Tryz.func163,Tryz.ntmps163;go_wp2;go_ret;unfold NumP;rw [en,ef];exact ⟨b,rfl,HN.out,by simpa using HX.out,World.grownBy.refl _ _⟩
theorem rnum:∀ n,RnC n
 | 0=>rnum_L
 | n+1=>rnum_B (bnum_any (rnum n))
def numO:Option TrT->List Int->Option TrT
 | none,_=>none
 | some t,l=>some ⟨t.lv,numT t.lv t.root l⟩
def tkL (S:List Int):List Int->Bool
 | []=>true
 | z::zs=>decide (2<=z/\z<524287/\z ∉ S) && tkL (S++[z]) zs
theorem tkL_snoc {zs:List Int}{z:Int}:∀ (S l:List Int),tkL S (l++z::zs)=(tkL S l && (decide (2<=z/\z<524287/\z ∉ S++l) && tkL (S++l++[z]) zs))
 | S,[]=>by simp [tkL]
 | S,y::l=>by
  rw [List.cons_append,tkL,tkL_snoc (S++[y]) l,tkL,Bool.and_assoc];simp
theorem row0_num (a:Option Addr)(c:Nat)(sa:Option Addr)(sm sc:Nat)(f:Value)(w:World) :
  Calls Tryz.prog 50 #[.agg #[.slice a 0 c,.slice sa sm sc],f] w fun en w'=>(∃ g,en=.returned (.agg #[.slice (some ⟨g,0,none⟩) 0 0,.slice sa sm sc]))/\w.grownBy w' none:=by
 obtain ⟨i0,hi,hz0,hz1,hz2⟩:=info_parts info_tnode;have h1:=heap_at0 w #[.slice a 0 c,.slice sa sm sc] 77;have g1:=World.grownBy_alloc w (.cells #[.slice a 0 c,.slice sa sm sc] 77) none;have h2:=heap_at1 w (.cells #[.slice a 0 c,.slice sa sm sc] 77) #[.slice none 0 0,.slice none 0 0] 77;have g2:=grown_al g1 (.cells #[.slice none 0 0,.slice none 0 0] 77);have h1':((w.alloc (.cells #[.slice a 0 c,.slice sa sm sc] 77)).alloc (.cells #[.slice none 0 0,.slice none 0 0] 77)).heap[w.heap.size]?=some (.cells #[.slice a 0 c,.slice sa sm sc] 77 (0,0)):=heap_old h1;have k0:=cell_heap (i:=0) h1' rfl;have H1:=hZq h1';have H2:=hZq h2;have G2:=hZq g2;clear h1 g1 h2 g2 h1';go_enter Tryz.func50,Tryz.ntmps50;go_upto_region 1 with fail
 generalize (w.alloc (.cells #[.slice a 0 c,.slice sa sm sc] 77)).alloc (.cells #[.slice none 0 0,.slice none 0 0] 77)=w2 at *
 go_wp2_with (at_make;refine wpList_make_full _ rfl _ _ 75 rfl w2.heap.size 82 i0 .nilIface 1 Tryz.underlying75 hi hz0 hz1 _ _ _ _ 0 rfl rfl rfl rfl ?b2 ?b3 (Nat.le_refl _) ?_)
 case b2=>rw [hz2];omega
 case b3=>unfold maxLen;omega
 intro w3 ho3 hg3;have G3:=hZq (gZq G2.out hg3);have B1:=hZq (heap_kept H1.out hg3);have B2:=hZq (heap_kept H2.out hg3);have k0:=cell_heap (i:=0) B1.out rfl;have k1:=cell_heap (i:=1) B1.out rfl;generalize w2.heap.size=g at *;clear ho3 hg3 G2
 go_wp2_with fail
 go_loopw [6,7,15] (fun _ _ si wr=>si=.int .i64 0/\wr=w3) (fun _ _ _ _=>0)
 case atStart=>exact ⟨rfl,rfl⟩
 case round =>
  obtain ⟨rfl,rfl⟩:=hrel;have z0:=frozen_of_row wr (w.heap.size+1) 0 _ _ B2.out;have z1:=frozen_of_row wr (w.heap.size+1) 1 _ _ B2.out;have y0:=cell_heap (i:=0) B2.out rfl;have y1:=cell_heap (i:=1) B2.out rfl;have b1:=heap_setCell_same wr (w.heap.size+1) 0 _ _ (.slice (some ⟨g,0,none⟩) 0 0) B2.out;have b2:=heap_setCell_same _ (w.heap.size+1) 1 _ _ (.slice sa sm sc) b1;have BB:=hZq b2;have GG:=hZq (gZq (grown_cell wr (w.heap.size+1) 0 (.slice (some ⟨g,0,none⟩) 0 0)) (grown_cell _ (w.heap.size+1) 1 (.slice sa sm sc)));clear b1 b2;go_wp2;refine bodyPost_ret (results_row rfl _ _ (w.heap.size+1) (.slice (some ⟨g,0,none⟩) 0 0) (.slice sa sm sc) rfl BB.out) rfl ?_;exact ⟨⟨g,rfl⟩,grown_new G3.out GG.out (by omega)⟩
def NumbP (w:World)(p:Nat)(t:Option TrT)(zs:List Int)(en:Ending)(w':World):Prop :=
 (if zs.length=frO t/\tkL (gatO t) zs=true then ∃ p',en=.returned (.tuple #[.pointer (some ⟨p',0,none⟩),.int .i64 0])/\TreeT w' p' (numO t zs) else en=.returned (.tuple #[.pointer (some ⟨p,0,none⟩),.int .i64 100]))/\w.grownBy w' none
theorem numbered_any (t:Option TrT)(p:Nat)(a:Option Addr)(n c:Nat)(zs:List Int)(w:World)(ht:TreeT w p t)(ox:OkO t)(hv:NqO t)(hs:frO t<=4611686018427387904)(hz:NmT w a n c zs)(zr:∀ z∈zs,-9223372036854775808<=z/\z<=9223372036854775807) :
  Calls Tryz.prog 26 #[.pointer (some ⟨p,0,none⟩),.slice a n c] w fun en w'=>NumbP w p t zs en w':=by
 have hlen:=hz.num;obtain ⟨hc1,hc2⟩:n<=c/\c<=9223372036854775807:=⟨hz.cap,hz.c2⟩;have g1:=World.grownBy_alloc w (.cells #[.slice a n c] 52) none;have h1:=heap_at0 w #[.slice a n c] 52;have HQ:=hZq h1;have k0:=cell_heap (i:=0) h1 rfl;have G1:=hZq g1;have HT:=hZq (ht.kept (FrT.of g1));have HZ:=hZq (EsT.kept hz (by decide) (FrT.of g1));have OX:=hZq ox;have HV:=hZq hv;have ZR:=hZq zr;have HL:=hZq hlen;clear ht hz g1 h1 ox hv zr hlen;go_enter Tryz.func26,Tryz.ntmps26;go_upto_region 1 with fail
 generalize w.alloc (.cells #[.slice a n c] 52)=w1 at *;obtain ⟨q,hq⟩:∃ q,w.heap.size=q:=⟨_,rfl⟩;rw [hq] at HQ k0 ⊢;have WQ:=hZq hq;clear hq;have FC:=hZq (fun W (hg:w1.grownBy W none)=>tfresh_any t p W (HT.out.kept (FrT.of hg)) OX.out hs);obtain ⟨F,hF⟩:∃ F,frO t=F:=⟨_,rfl⟩;rw [hF] at FC;have HF:=hZq hF;clear hF hs
 by_cases hne:n=F
 ·have hb:((n:Int) != (F:Int))=false:=by simp [hne]
  have HNE:=hZq hne;clear hne
  go_region_held3 (fun w'=>w'.cell? ⟨q,0,none⟩=some (.slice a n c)) (first | exact k0 | exact T5 | go_keep) (first
   | (go_at_call 17;refine (FC.out _ ((Qt.refl _).drew.grown none)).mono ?_;rintro en w5 ⟨rfl,hg5⟩;have H5:=hZq (show w1.grownBy w5 none from gZq ((Qt.refl _).drew.grown none) hg5);clear hg5;have T5:=keep1 k0 H5.out)
   | fail)
  have NC:=hZq (numbers_any t p w5 (HT.out.kept (FrT.of H5.out)) HV.out)
  go_wp2_with fail
  refine NC.out.mono ?_;rintro en w6 ⟨u,rfl,hu6,hs6,hg6⟩;have S6:=hZq hs6;have G6:=hZq (gZq H5.out hg6);have T6:=keep1 k0 G6.out;have U6:Hid (w1.heap.size<=u):=Nat.le_trans H5.out.size hu6;clear hu6 hs6 hg6 T5;have hlt:=cell_lt k0
  go_wp2_with fail
  go_loopw [8,20] (fun _ si wr=>∃ i:Nat,i<=n/\si=.int .i64 (i:Nat)/\tkL (gatO t) (zs.take i)=true/\SeT wr u (gatO t++zs.take i)/\w1.grownBy wr none) (fun _ si _=>n - (intOf si).toNat)
  case atStart=>exact ⟨0,Nat.zero_le _,rfl,rfl,by simpa using S6.out,G6.out⟩
  case round =>
   obtain ⟨i,hi,rfl,hk,hs,hg⟩:=hrel;have HK:=hZq hk;have HS:=hZq hs;have HG:=hZq hg;clear hk hs hg T6
   by_cases hlt2:i<n
   ·have i0:(0:Int)<=(i:Int):=by omega
    have i1:(i:Int)<(n:Int):=by omega
    obtain ⟨z,hx⟩:∃ z,zs[i]?=some z:=⟨_,List.getElem?_eq_getElem (by have:=HL.out;omega)⟩;obtain ⟨g,off,rfl,ht,hcl⟩:=HZ.out.cell i [.int .i64 z] (by rw [List.getElem?_map,hx];rfl);have hzc:=keep1 (hcl 0 _ rfl) HG.out;rw [show off+i*1+0=off+i by omega] at hzc;have TK:=hZq (takeS_any z HS.out (ZR.out z (List.mem_of_getElem? hx)));have HX:=hZq hx;clear ht hcl hx
    go_wp2_with fail
    refine TK.out.mono ?_;rintro en w7 ⟨rfl,hs7,hg7⟩;have S7:=hZq hs7;have G7:=hZq (grown_new (R:=u) HG.out hg7 U6.out);clear hs7 hg7 TK
    by_cases hok:2<=z/\z<524287/\z ∉ gatO t++zs.take i
    ·rw [if_pos hok] at S7
     have HO:=hZq hok;rw [decide_eq_true hok];clear hok;go_wp2;go_roundw
     case rel =>
      have e:=takeS HX.out;refine ⟨i+1,by omega,by go_num,?_,?_,G7.out⟩
      ·rw [e,tkL_snoc,HK.out,decide_eq_true HO.out]
       rfl
      ·rw [e,<- List.append_assoc]
       exact S7.out
     case measure=>simp [intOf];omega
    ·have HO:=hZq hok
     rw [decide_eq_false hok];clear hok;go_wp2
     go_ret2
     refine ⟨?_,gZq G1.out G7.out⟩;rw [if_neg]
     ·rfl
     ·rintro ⟨_,h2⟩
      have e:zs=zs.take i++z::zs.drop (i+1):=one_at HX.out;rw [e,tkL_snoc,decide_eq_false HO.out] at h2;simp at h2
   ·have hin:i=n:=by omega
    subst hin;have i1:¬ (i:Int)<(i:Int):=by omega
    have ht:zs.take i=zs:=List.take_of_length_le (by have:=HL.out;omega);rw [ht] at HK;clear ht HS;obtain ⟨ta,tm,tc,tsa,tsm,tsc,hp,htop⟩:=HT.out.kept (FrT.of HG.out);have y0:=cell_heap (i:=0) hp rfl;have y1:=cell_heap (i:=1) hp rfl;have NX:Hid (NxL wr wr q zs):=⟨⟨_,heap_kept HQ.out HG.out⟩,World.grownBy.refl _ _,a,i,c,heap_kept HQ.out HG.out,EsT.kept HZ.out (by decide) (FrT.of HG.out)⟩
    have RC:Hid (Calls Tryz.prog 50 #[.agg #[.slice ta tm tc,.slice tsa tsm tsc],.func (.func 49) #[] #[.pointer (some ⟨q,0,none⟩)]] wr fun en w'=>(∃ g m' c',en=.returned (.agg #[.slice (some ⟨g,0,none⟩) m' c',.slice tsa tsm tsc])/\TopT w' (some ⟨g,0,none⟩) m' c' (numO t zs))/\wr.grownBy w' (some q)):=by
     have ox:=OX.out;have hf:=HF.out;have hn:=HNE.out;have hl:=HL.out;have nx:=NX.out
     match t,htop,ox,hf with
     | none,htop,_,_ =>
      have hm:tm=0:=htop;subst hm;refine (row0_num ta tc tsa tsm tsc _ wr).mono ?_;rintro en w' ⟨⟨g,rfl⟩,hg⟩;exact ⟨⟨g,0,0,rfl,rfl⟩,grown_any hg⟩
     | some ⟨lv,x⟩,htop,ox,hf =>
      have hns:NsT lv wr ta tm tc [x]:=htop;have hm:tm=1:=by simpa using hns.len.symm
      subst hm;have hf2:frT lv x=F:=hf;refine (rnum lv [x] ta 1 tc tsa tsm tsc q zs wr wr hns (by omega) (fun y hy=>?_) nx (by simp only [sumT];omega)).mono ?_
      ·rw [List.mem_singleton.1 hy]
       exact ox
      ·rintro en w' ⟨g,rfl,hn5,_,hg5⟩
       exact ⟨⟨g,1,1,rfl,hn5⟩,hg5⟩
    have hmf:∀ (fn:Fn) (first cap:Array Value) (w:World),(Instr.makeFunc fn first cap).run Tryz.prog w=.ok (.func fn first cap) w:=fun _ _ _ _=>rfl
    clear hp htop hlt
    go_wp2_with fail
    refine RC.out.mono ?_;rintro en w7 ⟨⟨g,m',c',rfl,ht7⟩,hg7⟩;have T7:=hZq ht7;have G7:=hZq (grown_new (R:=q) (gZq G1.out HG.out) hg7 (by have:=WQ.out;omega));clear ht7 hg7 RC;go_wp2
    go_ret2
    refine ⟨?_,grown_al G7.out _⟩;rw [if_pos ⟨by have:=HL.out;have:=HNE.out;have:=HF.out;omega,HK.out⟩];exact ⟨_,rfl,tree_new T7.out⟩
 ·have hb:((n:Int) != (F:Int))=true:=by simp;omega
  have HNE:=hZq hne;clear hne
  go_region_held3 (fun w'=>w'.cell? ⟨q,0,none⟩=some (.slice a n c)) (first | exact k0 | exact T5 | go_keep) (first
   | (go_at_call 17;refine (FC.out _ ((Qt.refl _).drew.grown none)).mono ?_;rintro en w5 ⟨rfl,hg5⟩;have H5:=hZq (show w1.grownBy w5 none from gZq ((Qt.refl _).drew.grown none) hg5);clear hg5;have T5:=keep1 k0 H5.out)
   | fail)
  go_wp2
  go_ret2
  refine ⟨?_,gZq G1.out H5.out⟩;rw [if_neg (by rintro ⟨h,_⟩;have:=HL.out;have:=HF.out;have:=HNE.out;omega)]
  rfl
end Go.Proofs.YtepcgckapoljpaaGreat
