import Derived.Test.YteaahinjcfjngaaGreatQ15
namespace Go.Proofs.YteaahinjcfjngaaGreat
open Go.RowKit
theorem own_ne {w:World}{base sz:Nat}{e t:TypeId}{v:Value}{n:Nat}{xs:List Value}(ho:w.ownsRow base e sz v n xs){b:Nat}{cur:Array Value}(h1:w.heap[b]?=some (.cells cur t (0,0)))(ht:t≠e):some b≠v.ownBlock:=by
 intro e1;rcases ho.2 with ⟨rfl,_⟩ | ⟨g,cap,cur',rfl,_,hg,_⟩
 ·cases e1
 ·obtain rfl:b=g:=Option.some.inj e1
  rw [h1] at hg;simp only [Option.some.injEq,Obj.cells.injEq] at hg;exact ht hg.2.1
structure Sv (w:World)(base:Nat)(xs:List Value)(L:List (List Int)):Prop where
 len:xs.length=L.length
 el:∀ j,j<L.length->∃ g,xs[j]?=some (.slice (some ⟨g,0,none⟩) (L.getD j []).length (L.getD j []).length)/\Rw w g (L.getD j [])/\base<=g/\(L.getD j []).length<=140737488351232
theorem Sv.nil (w:World)(base:Nat):Sv w base [] []:=⟨rfl,fun j hj=>by simp at hj⟩
theorem Sv.kept {w w':World}{base:Nat}{xs:List Value}{L:List (List Int)}{row:Option Nat}(h:Sv w base xs L)(hg:w.grownBy w' row)(hne:∀ (g:Nat) (zs:List Int),base<=g->Rw w g zs->some g≠row):Sv w' base xs L:=by
 refine ⟨h.len,fun j hj=>?_⟩;obtain ⟨g,h1,h2,h3,h4⟩:=h.el j hj;exact ⟨g,h1,h2.kept hg (hne g _ h3 h2),h3,h4⟩
theorem Sv.snoc {w:World}{base:Nat}{xs:List Value}{L:List (List Int)}(h:Sv w base xs L){g n:Nat}{x:List Int}(hx:Rw w g x)(hn:x.length=n)(hb:base<=g)(hm:n<=140737488351232):Sv w base (xs++[.slice (some ⟨g,0,none⟩) n n]) (L++[x]):=by
 have hl:=h.len;refine ⟨by simp [hl],fun j hj=>?_⟩;rw [List.length_append] at hj;simp only [List.length_cons,List.length_nil] at hj
 by_cases e:j<L.length
 ·obtain ⟨g,h1,h2,h3,h4⟩:=h.el j e
  have eg:(L++[x]).getD j []=L.getD j []:=by simp [List.getD,List.getElem?_append_left e]
  rw [eg];exact ⟨g,by rw [List.getElem?_append_left (by omega)];exact h1,h2,h3,h4⟩
 ·obtain rfl:j=L.length:=by omega
  have eg:(L++[x]).getD L.length []=x:=by simp [List.getD]
  rw [eg,hn];exact ⟨g,by rw [List.getElem?_append_right (by omega),hl,Nat.sub_self];rfl,hx,hb,hm⟩
theorem Sv.lz {w:World}{base base2:Nat}{v:Value}{n:Nat}{xs:List Value}{L:List (List Int)}(h:Sv w base2 xs L)(ho:w.ownsRow base 62 1 v n xs):∃ a cap,v=.slice a n cap/\Lz w a L/\L.length=n/\n<=cap/\cap<=9223372036854775807:=by
 have hl:=h.len;have hn:L.length=n:=by have:=ho.1;omega
 rcases ho.2 with ⟨rfl,rfl⟩ | ⟨g,cap,cur,rfl,_,_,hc,hm,_⟩
 ·obtain rfl:L=[]:=List.length_eq_zero_iff.1 hn
  exact ⟨none,0,rfl,Lz.zero _ _,rfl,Nat.le_refl _,by omega⟩
 ·refine ⟨_,cap,rfl,⟨fun i hi=>?_⟩,hn,hc,by unfold maxLen at hm;omega⟩
  obtain ⟨g',h1,h2,h3,h4⟩:=h.el i hi;refine ⟨g,0,some ⟨g',0,none⟩,(L.getD i []).length,(L.getD i []).length,rfl,?_,h2.all _ _ rfl,Nat.le_refl _,by omega⟩;have:=ho.cellAt i (by omega);rw [Nat.zero_add,this];exact h1
def kc:List Kd->List Value
 | []=>[]
 | k::K=>.int .i64 k.no::.int .i64 k.keys::kc K
theorem info_bytesS:(Tryz.prog.info? 62).map (fun i=>(i.zero,i.size,i.bytes))=some (some (.slice none 0 0),1,24):=by kernel_rfl
theorem cell_one_new (w:World)(a:Value)(t:TypeId):∀ j u,[a][j]?=some u->(w.alloc (.cells #[a] t)).cell? ((⟨w.heap.size,0,none⟩:Addr).add j)=some u:=by
 intro j u hu;rw [Addr.add_lit,Nat.zero_add,cell_of_row _ w.heap.size j _ _ (0,0) (heap_alloc_new w _)];simpa using hu
theorem step_append_own5 {ops:Array Oper}{o:Oper}{a:Act}{w:World}{K:Act->World->Prop}{Q:Exit->Act->World->Prop}{E:Prop}(hgd:o.guard=none)(s x:Operand)(t:TypeId)
  (ho:o.op=.call { callee:=.builtin .append,args:=#[s,x],argTypes:=#[t,t] })
  (base:Nat) (e:TypeId) (i:TypeInfo) (z:Value) (size bytes:Nat) (ht:Tryz.prog.underlying t=some (.slice e)) (hi:Tryz.prog.info? e=some i) (hz:i.zero=some z) (hsize:i.size=size) (hby:i.bytes=bytes) (hzs:z.cells.size=size) (hsz:0<size)
  (v:Value) (n:Nat) (xs:List Value) (hs:a.eval s=v) (hown:w.ownsRow base e size v n xs)
  (ad:Addr) (m c:Nat) (news:List Value) (hx:a.eval x=.slice (some ad) m c) (hl:news.length=m*size) (hnews:∀ j u,news[j]?=some u->w.cell? (ad.add j)=some u) (h1:∀ u∈news,u.oneCell'=true)
  (h63:n+m<=maxLen) (hbytes:(n+m)*bytes<=140737488355328) (hbase:base<=w.heap.size)
  (h:∀ v' w',w'.ownsRow base e size v' (n+m) (xs++news)->w.grownBy w' v.ownBlock->K (a.put o.dst v') w') :
  if Region.wanted o (yielded ops a.tmps)=true then Oper.wp Tryz.prog o a w K Q else E:=by
 have hw:Region.wanted o (yielded ops a.tmps)=true:=by simp [Region.wanted,hgd]
 rw [if_pos hw];obtain ⟨v',w',hrun,r1,r2,_⟩:=run_append_own (P:=Tryz.prog) w base t o.type e i z size bytes ht hi hz hsize hby hzs hsz v n xs hown ad m c news hl hnews h1 h63 hbytes hbase;unfold Oper.wp;simp [execOp,ho,resolve,invoke,builtin,hs,hx,hrun,Result.andThen];exact h v' w' r1 r2
structure Sx (w:World)(xs:List Value)(M:List (List Int)):Prop where
 len:xs.length=M.length
 el:∀ j,j<M.length->∃ b v,xs[j]?=some v/\w.ownsRow b 5 1 v (M.getD j []).length ((M.getD j []).map (Value.int .u8))
theorem Sx.nil (w:World):Sx w [] []:=⟨rfl,fun j hj=>by simp at hj⟩
theorem Sx.kept {w w':World}{xs:List Value}{M:List (List Int)}{base sz n:Nat}{vl:Value}{ys:List Value}(h:Sx w xs M)(hg:w.grownBy w' vl.ownBlock)(ho:w.ownsRow base 62 sz vl n ys):Sx w' xs M:=by
 refine ⟨h.len,fun j hj=>?_⟩;obtain ⟨b,v,h1,h2⟩:=h.el j hj;refine ⟨b,v,h1,h2.kept hg ?_⟩;rcases h2.2 with ⟨rfl,_⟩ | ⟨g,cap,cur',rfl,_,hgg,_⟩
 ·exact .inl rfl
 ·exact .inr (own_ne ho hgg (by decide))
theorem Sx.keptN {w w':World}{xs:List Value}{M:List (List Int)}(h:Sx w xs M)(hg:w.grownBy w' none):Sx w' xs M:=by
 refine ⟨h.len,fun j hj=>?_⟩;obtain ⟨b,v,h1,h2⟩:=h.el j hj;exact ⟨b,v,h1,h2.kept hg (by cases v.ownBlock with | none=>exact .inl rfl | some g=>exact .inr (by simp))⟩
theorem Sx.snoc {w:World}{xs:List Value}{M:List (List Int)}{b n:Nat}{v:Value}{x:List Int}(h:Sx w xs M)(h1:w.ownsRow b 5 1 v n (x.map (Value.int .u8)))(hn:x.length=n):Sx w (xs++[v]) (M++[x]):=by
 have hl:=h.len;refine ⟨by simp [hl],fun j hj=>?_⟩;rw [List.length_append] at hj;simp only [List.length_cons,List.length_nil] at hj
 by_cases e:j<M.length
 ·obtain ⟨b,v,k1,k2⟩:=h.el j e
  have eg:(M++[x]).getD j []=M.getD j []:=by simp [List.getD,List.getElem?_append_left e]
  rw [eg];exact ⟨b,v,by rw [List.getElem?_append_left (by omega)];exact k1,k2⟩
 ·obtain rfl:j=M.length:=by omega
  have eg:(M++[x]).getD M.length []=x:=by simp [List.getD]
  rw [eg,hn];exact ⟨b,v,by rw [List.getElem?_append_right (by omega),hl,Nat.sub_self];rfl,h1⟩
theorem Sx.lz {w:World}{base:Nat}{v:Value}{n:Nat}{xs:List Value}{M:List (List Int)}(h:Sx w xs M)(ho:w.ownsRow base 62 1 v n xs):∃ a cap,v=.slice a n cap/\Lz w a M/\M.length=n/\n<=cap/\cap<=9223372036854775807:=by
 have hl:=h.len;have hn:M.length=n:=by have:=ho.1;omega
 rcases ho.2 with ⟨rfl,rfl⟩ | ⟨g,cap,cur,rfl,_,_,hc,hm,_⟩
 ·obtain rfl:M=[]:=List.length_eq_zero_iff.1 hn
  exact ⟨none,0,rfl,Lz.zero _ _,rfl,Nat.le_refl _,by omega⟩
 ·refine ⟨_,cap,rfl,⟨fun i hi=>?_⟩,hn,hc,by unfold maxLen at hm;omega⟩
  obtain ⟨b,v',h1,h2⟩:=h.el i hi;have hcl:=ho.cellAt i (by omega);obtain ⟨ao,c',e1,hb⟩:=owns_any h2;subst e1;rcases h2.2 with ⟨e2,e3⟩ | ⟨g',cap',cur',e2,_,_,hc',hm',_⟩
  ·rw [e3] at hb h1
   simp only [Value.slice.injEq] at e2;obtain ⟨rfl,_,rfl⟩:=e2;exact ⟨g,0,none,0,0,rfl,by rw [Nat.zero_add,hcl];exact h1,hb,Nat.le_refl _,by omega⟩
  ·simp only [Value.slice.injEq] at e2
   obtain ⟨rfl,_,rfl⟩:=e2;exact ⟨g,0,_,_,c',rfl,by rw [Nat.zero_add,hcl];exact h1,hb,hc',by unfold maxLen at hm';omega⟩
theorem grown_ownN {a b c:World}{row:Option Nat}(h:a.grownBy b none)(k:b.grownBy c row)(hr:∀ g,row=some g->a.heap.size<=g):a.grownBy c none :=
 ⟨k.os.trans h.os,k.tape.trans h.tape,k.output.trans h.output,Nat.le_trans h.size k.size,
  fun i hi hne=>(k.block i (Nat.lt_of_lt_of_le hi h.size) (by intro e;have:=hr i e.symm;omega)).trans (h.block i hi hne)⟩
end Go.Proofs.YteaahinjcfjngaaGreat
