import Derived.Test.YteaahinjcfjngaaGreatQ18
import Derived.Test.YteaahinjcfjngaaGreatQ16
import Derived.Lib.AppendZeros
import Derived.Deep.Cut
import Derived.Deep.CutRange
import Derived.Deep.DeepCutAuto
import Derived.Deep.CutBlock
import Derived.BigQuiet
import Derived.Deep.QuietTactic
set_option maxRecDepth 100000
set_option maxHeartbeats 4000000
namespace Go.Proofs.YteaahinjcfjngaaGreat
open Go.RowKit
structure Iw (w:World)(xs:List Value)(L:List It):Prop where
 len:xs.length=L.length*4
 el:∀ j,j<L.length->∃ ao n c bo m d,xs[j*4]?=some (.slice ao n c)/\xs[j*4+1]?=some (.slice bo m d)/\xs[j*4+2]?=some (.int .i64 (L.getD j it0).size)/\xs[j*4+3]?=some (.int .i64 (L.getD j it0).first) /\
  Byt w ao n c (L.getD j it0).key/\n<=c/\c<=9223372036854775807/\Byt w bo m d (L.getD j it0).val/\m<=d/\d<=9223372036854775807
theorem Iw.nil (w:World):Iw w [] []:=⟨rfl,fun j hj=>by simp at hj⟩
theorem Iw.snoc {w:World}{xs:List Value}{L:List It}{ao:Option Addr}{n c:Nat}{bo:Option Addr}{m d:Nat}{x:It}(h:Iw w xs L)(h1:Byt w ao n c x.key)(h2:n<=c)(h3:c<=9223372036854775807)(h4:Byt w bo m d x.val)(h5:m<=d)(h6:d<=9223372036854775807)(s f:Int)(hs:x.size=s)(hf:x.first=f) :
  Iw w (xs++[.slice ao n c,.slice bo m d,.int .i64 s,.int .i64 f]) (L++[x]):=by
 have hl:=h.len;refine ⟨by simp [hl];omega,fun j hj=>?_⟩;rw [List.length_append] at hj;simp only [List.length_cons,List.length_nil] at hj
 by_cases e:j<L.length
 ·obtain ⟨ao,n,c,bo,m,d,k1,k2,k3,k4,k5⟩:=h.el j e
  have eg:(L++[x]).getD j it0=L.getD j it0:=by simp [List.getD,List.getElem?_append_left e]
  rw [eg];exact ⟨ao,n,c,bo,m,d,by rw [List.getElem?_append_left (by omega)];exact k1,by rw [List.getElem?_append_left (by omega)];exact k2,by rw [List.getElem?_append_left (by omega)];exact k3,by rw [List.getElem?_append_left (by omega)];exact k4,k5⟩
 ·obtain rfl:j=L.length:=by omega
  have eg:(L++[x]).getD L.length it0=x:=by simp [List.getD]
  rw [eg,hs,hf];refine ⟨ao,n,c,bo,m,d,?_,?_,?_,?_,h1,h2,h3,h4,h5,h6⟩
  ·rw [List.getElem?_append_right (by omega),hl,Nat.sub_self];rfl
  ·rw [List.getElem?_append_right (by omega),hl,Nat.add_sub_cancel_left];rfl
  ·rw [List.getElem?_append_right (by omega),hl,Nat.add_sub_cancel_left];rfl
  ·rw [List.getElem?_append_right (by omega),hl,Nat.add_sub_cancel_left];rfl
theorem Iw.il {w wr:World}{base:Nat}{v:Value}{n:Nat}{xs:List Value}{L:List It}(h:Iw w xs L)(hg:w.grownBy wr none)(ho:wr.ownsRow base 122 4 v n xs):∃ a cap,v=.slice a n cap/\Il wr a L/\L.length=n:=by
 have hl:=h.len;have hn:L.length=n:=by have:=ho.1;omega
 rcases ho.2 with ⟨rfl,rfl⟩ | ⟨g,cap,cur,rfl,_,_,hc,hm,_⟩
 ·obtain rfl:L=[]:=List.length_eq_zero_iff.1 hn
  exact ⟨none,0,rfl,Il.zero _ _,rfl⟩
 ·refine ⟨_,cap,rfl,⟨fun i hi=>?_⟩,hn⟩
  obtain ⟨ao,n',c,bo,m,d,h1,h2,h3,h4,h5,h6,h7,h8,h9,h10⟩:=h.el i hi;refine ⟨g,0,ao,n',c,bo,m,d,rfl,?_,?_,?_,?_,h5.keptN hg,h6,h7,h8.keptN hg,h9,h10⟩
  ·rw [Nat.zero_add,ho.cellAt _ (by omega)];exact h1
  ·rw [Nat.zero_add,ho.cellAt _ (by omega)];exact h2
  ·rw [Nat.zero_add,ho.cellAt _ (by omega)];exact h3
  ·rw [Nat.zero_add,ho.cellAt _ (by omega)];exact h4
structure Sw (w:World)(xs:List Value)(L:List (List Int)):Prop where
 len:xs.length=L.length
 el:∀ j,j<L.length->∃ ao n c,xs[j]?=some (.slice ao n c)/\Byt w ao n c (L.getD j [])/\n<=c/\c<=9223372036854775807
theorem Sw.nil (w:World):Sw w [] []:=⟨rfl,fun j hj=>by simp at hj⟩
theorem Sw.snoc {w:World}{xs:List Value}{L:List (List Int)}{ao:Option Addr}{n c:Nat}{x:List Int}(h:Sw w xs L)(h1:Byt w ao n c x)(h2:n<=c)(h3:c<=9223372036854775807):Sw w (xs++[.slice ao n c]) (L++[x]):=by
 have hl:=h.len;refine ⟨by simp [hl],fun j hj=>?_⟩;rw [List.length_append] at hj;simp only [List.length_cons,List.length_nil] at hj
 by_cases e:j<L.length
 ·obtain ⟨ao,n,c,k1,k2⟩:=h.el j e
  have eg:(L++[x]).getD j []=L.getD j []:=by simp [List.getD,List.getElem?_append_left e]
  rw [eg];exact ⟨ao,n,c,by rw [List.getElem?_append_left (by omega)];exact k1,k2⟩
 ·obtain rfl:j=L.length:=by omega
  have eg:(L++[x]).getD L.length []=x:=by simp [List.getD]
  rw [eg];exact ⟨ao,n,c,by rw [List.getElem?_append_right (by omega),hl,Nat.sub_self];rfl,h1,h2,h3⟩
theorem Sw.lz {w w':World}{base:Nat}{v:Value}{n:Nat}{xs:List Value}{L:List (List Int)}(h:Sw w xs L)(hg:w.grownBy w' none)(ho:w'.ownsRow base 62 1 v n xs):∃ a cap,v=.slice a n cap/\Lz w' a L/\L.length=n/\n<=cap/\cap<=9223372036854775807:=by
 have hl:=h.len;have hn:L.length=n:=by have:=ho.1;omega
 rcases ho.2 with ⟨rfl,rfl⟩ | ⟨g,cap,cur,rfl,_,_,hc,hm,_⟩
 ·obtain rfl:L=[]:=List.length_eq_zero_iff.1 hn
  exact ⟨none,0,rfl,Lz.zero _ _,rfl,Nat.le_refl _,by omega⟩
 ·refine ⟨_,cap,rfl,⟨fun i hi=>?_⟩,hn,hc,by unfold maxLen at hm;omega⟩
  obtain ⟨ao,n',c,h1,h2,h3,h4⟩:=h.el i hi;refine ⟨g,0,ao,n',c,rfl,?_,h2.keptN hg,h3,h4⟩;rw [Nat.zero_add,ho.cellAt _ (by omega)];exact h1
theorem grown_app9 {w wr w':World}{o:Obj}{base n:Nat}{v:Value}{xs:List Value}{t:TypeId}{sz:Nat}(hg:w.grownBy wr none)(ho:wr.ownsRow base t sz v n xs)(hb:w.heap.size<=base)(h:(wr.alloc o).grownBy w' v.ownBlock):w.grownBy w' none:=by
 refine ⟨h.os.trans hg.os,h.tape.trans hg.tape,h.output.trans hg.output,?_,fun q hq _=>?_⟩
 ·have:=h.size;have:=hg.size;simp at *;omega
 ·have hq2:q<wr.heap.size:=Nat.lt_of_lt_of_le hq hg.size
  rw [h.block q (by simp;omega) (by intro e;have:=(ho.lt q e.symm).1;omega),Below.heap_alloc wr _ q hq2];exact hg.block q hq (by simp)
theorem Iw.append {w:World}{xs ys:List Value}{A B:List It}(h:Iw w xs A)(k:Iw w ys B):Iw w (xs++ys) (A++B):=by
 have hl:=h.len;refine ⟨by rw [List.length_append,List.length_append,h.len,k.len,Nat.add_mul],fun j hj=>?_⟩;rw [List.length_append] at hj
 by_cases e:j<A.length
 ·obtain ⟨ao,n,c,bo,m,d,k1,k2,k3,k4,k5⟩:=h.el j e
  have eg:(A++B).getD j it0=A.getD j it0:=by simp [List.getD,List.getElem?_append_left e]
  rw [eg];exact ⟨ao,n,c,bo,m,d,by rw [List.getElem?_append_left (by omega)];exact k1,by rw [List.getElem?_append_left (by omega)];exact k2,by rw [List.getElem?_append_left (by omega)];exact k3,by rw [List.getElem?_append_left (by omega)];exact k4,k5⟩
 ·obtain ⟨i,rfl⟩:∃ i,j=A.length+i:=⟨j - A.length,by omega⟩
  obtain ⟨ao,n,c,bo,m,d,k1,k2,k3,k4,k5⟩:=k.el i (by omega);have eg:(A++B).getD (A.length+i) it0=B.getD i it0:=by simp [List.getD,List.getElem?_append_right]
  rw [eg];refine ⟨ao,n,c,bo,m,d,?_,?_,?_,?_,k5⟩
  ·rw [List.getElem?_append_right (by omega),hl,show (A.length+i)*4 - A.length*4=i*4 by omega];exact k1
  ·rw [List.getElem?_append_right (by omega),hl,show (A.length+i)*4+1 - A.length*4=i*4+1 by omega];exact k2
  ·rw [List.getElem?_append_right (by omega),hl,show (A.length+i)*4+2 - A.length*4=i*4+2 by omega];exact k3
  ·rw [List.getElem?_append_right (by omega),hl,show (A.length+i)*4+3 - A.length*4=i*4+3 by omega];exact k4
theorem take_snoc9 {L:List It}{i:Nat}(hi:i<L.length):L.take (i+1)=L.take i++[L.getD i it0]:=by
 rw [List.take_add_one,List.getElem?_eq_getElem hi];simp [List.getD,List.getElem?_eq_getElem hi]
theorem Il.cells {w:World}{ad:Addr}{L:List It}(h:Il w (some ad) L):∃ ys,(∀ j u,ys[j]?=some u->w.cell? (ad.add j)=some u)/\(∀ u∈ys,u.oneCell'=true)/\Iw w ys L:=by
 have H:∀ i,i<=L.length->∃ ys,(∀ j u,ys[j]?=some u->w.cell? (ad.add j)=some u)/\(∀ u∈ys,u.oneCell'=true)/\Iw w ys (L.take i):=by
  intro i
  induction i with
  | zero=>exact fun _=>⟨[],fun j u hu=>by simp at hu,fun u hu=>by simp at hu,by simpa using Iw.nil w⟩
  | succ i ih =>
   intro hi;obtain ⟨ys,h1,h2,h3⟩:=ih (by omega);obtain ⟨b,off,ao,n,c,bo,m,d,e,q2,q3,q4,q5,q6,q7,q8,q9,q10,q11⟩:=h.row i (by omega);simp only [Option.some.injEq] at e;subst e
   have hl:ys.length=i*4:=by
    have:=h3.len;rw [List.length_take] at this;rw [this]
    congr 1
    omega
   refine ⟨ys++[.slice ao n c,.slice bo m d,.int .i64 (L.getD i it0).size,.int .i64 (L.getD i it0).first],fun j u hu=>?_,fun u hu=>?_,?_⟩
   ·by_cases e:j<ys.length
    ·rw [List.getElem?_append_left e] at hu
     exact h1 j u hu
    ·rw [List.getElem?_append_right (by omega)] at hu
     obtain ⟨k,rfl⟩:∃ k,j=i*4+k:=⟨j - i*4,by omega⟩;rw [hl,Nat.add_sub_cancel_left] at hu;rw [Addr.add_lit]
     match k,hu with
     | 0,hu=>simp at hu;subst hu;rw [show off+(i*4+0)=off+i*4 by omega];exact q2
     | 1,hu=>simp at hu;subst hu;rw [show off+(i*4+1)=off+i*4+1 by omega];exact q3
     | 2,hu=>simp only [List.getElem?_cons_succ,List.getElem?_cons_zero,Option.some.injEq] at hu;subst hu;rw [show off+(i*4+2)=off+i*4+2 by omega];exact q4
     | 3,hu=>simp only [List.getElem?_cons_succ,List.getElem?_cons_zero,Option.some.injEq] at hu;subst hu;rw [show off+(i*4+3)=off+i*4+3 by omega];exact q5
     | k+4,hu=>simp at hu
   ·rcases List.mem_append.1 hu with hu | hu
    ·exact h2 u hu
    ·simp only [List.mem_cons,List.not_mem_nil,or_false] at hu
     rcases hu with rfl | rfl | rfl | rfl <;> rfl
   ·rw [take_snoc9 (by omega)]
    exact h3.snoc q6 q7 q8 q9 q10 q11 _ _ rfl rfl
 obtain ⟨ys,h1,h2,h3⟩:=H L.length (Nat.le_refl _);rw [List.take_length] at h3;exact ⟨ys,h1,h2,h3⟩
theorem wpList_append_il {w0 w:World}{ops:Array Oper}{rest:List Oper}{o:Oper}{a:Act}{Q:Exit->Act->World->Prop}(hgd:o.guard=none)(s x:Operand)
  (ho:o.op=.call { callee:=.builtin .append,args:=#[s,x],argTypes:=#[120,120] })
  (base:Nat) (v:Value) (n:Nat) (xs:List Value) (A:List It) (hs:a.eval s=v) (hown:w.ownsRow base 122 4 v n xs) (hA:Iw w0 xs A)
  (ao:Option Addr) (m c:Nat) (B:List It) (hx:a.eval x=.slice ao m c) (hb:Il w0 ao B) (hg:w0.grownBy w none) (hm:B.length=m) (hnil:ao=none->c=0) (h63:n+m<=100000) (hbase:base<=w.heap.size)
  (h:∀ v' w' xs',w'.ownsRow base 122 4 v' (n+m) xs'->Iw w0 xs' (A++B)->w.grownBy w' v.ownBlock->wpList Tryz.prog ops Q rest (a.put o.dst v') w'):wpList Tryz.prog ops Q (o::rest) a w:=by
 obtain ⟨i0,hi,hz0,hz1,hz2⟩:=info_parts info_item;cases ao with
 | none =>
  have hc:=hnil rfl
  have hB:B=[]:=by
   cases B with
   | nil=>rfl
   | cons y B =>
    obtain ⟨_,_,_,_,_,_,_,_,e,_⟩:=hb.row 0 (by simp);cases e
  subst hB;have hm0:m=0:=by simpa using hm.symm
  subst hm0;subst hc;refine wpList_append_own_none hgd s x 120 ho base 122 i0 4 Tryz.underlying120 hi v n _ hs hown hx ?_;exact h v w xs hown (by rw [List.append_nil];exact hA) (World.grownBy.refl _ _)
 | some ad =>
  obtain ⟨ys,k1,k2,k3⟩:=(hb.keptN hg).cells;obtain ⟨zs,j1,j2,j3⟩:=hb.cells
  have hz:ys=zs:=by
   apply List.ext_getElem?;intro j;have hl1:=k3.len;have hl2:=j3.len
   by_cases e:j<ys.length
   ·have e2:j<zs.length:=by omega
    have a1:=k1 j _ (List.getElem?_eq_getElem e);have a2:=hg.cell (j1 j _ (List.getElem?_eq_getElem e2)) (by simp);rw [List.getElem?_eq_getElem e,List.getElem?_eq_getElem e2];rw [a2] at a1;exact a1.symm
   ·rw [List.getElem?_eq_none (by omega),List.getElem?_eq_none (by omega)]
  subst hz;refine wpList_append_own w hgd s x 120 ho base 122 i0 (.agg #[.slice none 0 0,.slice none 0 0,.int .i64 0,.int .i64 0]) 4 64 Tryz.underlying120 hi hz0 hz1 hz2 rfl (by decide) v n _ hs hown ad m c ys hx (by rw [k3.len,hm]) k1 k2 (by unfold maxLen;omega) (by omega) hbase ?_;intro v' w' h1 h2 _;exact h v' w' _ h1 (hA.append j3) h2
theorem Sw.append {w:World}{xs ys:List Value}{A B:List (List Int)}(h:Sw w xs A)(k:Sw w ys B):Sw w (xs++ys) (A++B):=by
 have hl:=h.len;refine ⟨by rw [List.length_append,List.length_append,h.len,k.len],fun j hj=>?_⟩;rw [List.length_append] at hj
 by_cases e:j<A.length
 ·obtain ⟨ao,n,c,k1,k5⟩:=h.el j e
  have eg:(A++B).getD j []=A.getD j []:=by simp [List.getD,List.getElem?_append_left e]
  rw [eg];exact ⟨ao,n,c,by rw [List.getElem?_append_left (by omega)];exact k1,k5⟩
 ·obtain ⟨i,rfl⟩:∃ i,j=A.length+i:=⟨j - A.length,by omega⟩
  obtain ⟨ao,n,c,k1,k5⟩:=k.el i (by omega);have eg:(A++B).getD (A.length+i) []=B.getD i []:=by simp [List.getD,List.getElem?_append_right]
  rw [eg];refine ⟨ao,n,c,?_,k5⟩;rw [List.getElem?_append_right (by omega),hl,show A.length+i - A.length=i by omega];exact k1
theorem ltake_snoc9 {L:List (List Int)}{i:Nat}(hi:i<L.length):L.take (i+1)=L.take i++[L.getD i []]:=by
 rw [List.take_add_one,List.getElem?_eq_getElem hi];simp [List.getD,List.getElem?_eq_getElem hi]
theorem Lz.cells {w:World}{ad:Addr}{L:List (List Int)}(h:Lz w (some ad) L):∃ ys,(∀ j u,ys[j]?=some u->w.cell? (ad.add j)=some u)/\(∀ u∈ys,u.oneCell'=true)/\Sw w ys L:=by
 have H:∀ i,i<=L.length->∃ ys,(∀ j u,ys[j]?=some u->w.cell? (ad.add j)=some u)/\(∀ u∈ys,u.oneCell'=true)/\Sw w ys (L.take i):=by
  intro i
  induction i with
  | zero=>exact fun _=>⟨[],fun j u hu=>by simp at hu,fun u hu=>by simp at hu,by simpa using Sw.nil w⟩
  | succ i ih =>
   intro hi;obtain ⟨ys,h1,h2,h3⟩:=ih (by omega);obtain ⟨b,off,ao,n,c,e,q2,q3,q4,q5⟩:=h.row i (by omega);simp only [Option.some.injEq] at e;subst e
   have hl:ys.length=i:=by
    have:=h3.len;rw [List.length_take] at this;omega
   refine ⟨ys++[.slice ao n c],fun j u hu=>?_,fun u hu=>?_,?_⟩
   ·by_cases e:j<ys.length
    ·rw [List.getElem?_append_left e] at hu
     exact h1 j u hu
    ·rw [List.getElem?_append_right (by omega)] at hu
     obtain ⟨k,rfl⟩:∃ k,j=i+k:=⟨j - i,by omega⟩;rw [hl,Nat.add_sub_cancel_left] at hu;rw [Addr.add_lit]
     match k,hu with
     | 0,hu=>simp at hu;subst hu;exact q2
     | k+1,hu=>simp at hu
   ·rcases List.mem_append.1 hu with hu | hu
    ·exact h2 u hu
    ·simp only [List.mem_cons,List.not_mem_nil,or_false] at hu
     subst hu
     rfl
   ·rw [ltake_snoc9 (by omega)]
    exact h3.snoc q3 q4 q5
 obtain ⟨ys,h1,h2,h3⟩:=H L.length (Nat.le_refl _);rw [List.take_length] at h3;exact ⟨ys,h1,h2,h3⟩
theorem wpList_append_lz {w0 w:World}{ops:Array Oper}{rest:List Oper}{o:Oper}{a:Act}{Q:Exit->Act->World->Prop}(hgd:o.guard=none)(s x:Operand)
  (ho:o.op=.call { callee:=.builtin .append,args:=#[s,x],argTypes:=#[59,59] })
  (base:Nat) (v:Value) (n:Nat) (xs:List Value) (A:List (List Int)) (hs:a.eval s=v) (hown:w.ownsRow base 62 1 v n xs) (hA:Sw w0 xs A)
  (ao:Option Addr) (m c:Nat) (B:List (List Int)) (hx:a.eval x=.slice ao m c) (hb:Lz w0 ao B) (hg:w0.grownBy w none) (hm:B.length=m) (hnil:ao=none->c=0) (h63:n+m<=100000) (hbase:base<=w.heap.size)
  (h:∀ v' w' xs',w'.ownsRow base 62 1 v' (n+m) xs'->Sw w0 xs' (A++B)->w.grownBy w' v.ownBlock->wpList Tryz.prog ops Q rest (a.put o.dst v') w'):wpList Tryz.prog ops Q (o::rest) a w:=by
 obtain ⟨i0,hi,hz0,hz1,hz2⟩:=info_parts info_bytesS;cases ao with
 | none =>
  have hc:=hnil rfl
  have hB:B=[]:=by
   cases B with
   | nil=>rfl
   | cons y B =>
    obtain ⟨_,_,_,_,_,e,_⟩:=hb.row 0 (by simp);cases e
  subst hB;have hm0:m=0:=by simpa using hm.symm
  subst hm0;subst hc;refine wpList_append_own_none hgd s x 59 ho base 62 i0 1 Tryz.underlying59 hi v n _ hs hown hx ?_;exact h v w xs hown (by rw [List.append_nil];exact hA) (World.grownBy.refl _ _)
 | some ad =>
  obtain ⟨ys,k1,k2,k3⟩:=(hb.keptN hg).cells;obtain ⟨zs,j1,j2,j3⟩:=hb.cells
  have hz:ys=zs:=by
   apply List.ext_getElem?;intro j;have hl1:=k3.len;have hl2:=j3.len
   by_cases e:j<ys.length
   ·have e2:j<zs.length:=by omega
    have a1:=k1 j _ (List.getElem?_eq_getElem e);have a2:=hg.cell (j1 j _ (List.getElem?_eq_getElem e2)) (by simp);rw [List.getElem?_eq_getElem e,List.getElem?_eq_getElem e2];rw [a2] at a1;exact a1.symm
   ·rw [List.getElem?_eq_none (by omega),List.getElem?_eq_none (by omega)]
  subst hz;refine wpList_append_own w hgd s x 59 ho base 62 i0 (.slice none 0 0) 1 24 Tryz.underlying59 hi hz0 hz1 hz2 rfl (by decide) v n _ hs hown ad m c ys hx (by rw [k3.len,hm,Nat.mul_one]) k1 k2 (by unfold maxLen;omega) (by omega) hbase ?_;intro v' w' h1 h2 _;exact h v' w' _ h1 (hA.append j3) h2
theorem grown_own9 {w wr w':World}{base n:Nat}{v:Value}{xs:List Value}{t:TypeId}{sz:Nat}(hg:w.grownBy wr none)(ho:wr.ownsRow base t sz v n xs)(hb:w.heap.size<=base)(h:wr.grownBy w' v.ownBlock):w.grownBy w' none:=by
 refine ⟨h.os.trans hg.os,h.tape.trans hg.tape,h.output.trans hg.output,Nat.le_trans hg.size h.size,fun q hq _=>?_⟩;have hq2:q<wr.heap.size:=Nat.lt_of_lt_of_le hq hg.size;rw [h.block q hq2 (by intro e;have:=(ho.lt q e.symm).1;omega)];exact hg.block q hq (by simp)
theorem zeros_len (cs:Array Value):∀ n,(Builtin.zeroCells cs n).size=n*cs.size:=by
 intro n;simp [Builtin.zeroCells]
theorem grow_it (n:Nat)(w:World)(hn:n<=100000) :
  Calls Tryz.prog 178 #[.slice none 0 0,.int .i64 n] w fun en w'=>∃ v,en=.returned v/\w'.ownsRow w.heap.size 122 4 v 0 []/\w.grownBy w' none:=by
 by_cases h0:n=0
 ·subst h0
  go_enter Tryz.func178,Tryz.ntmps178;go_wp2;go_ret;exact ⟨_,rfl,⟨rfl,.inl ⟨rfl,rfl⟩⟩,World.grownBy.refl _ _⟩
 ·obtain ⟨i0,hi,hz0,hz1,hz2⟩:=info_parts info_item
  have hpos:0<n:=by omega
  have hr:∀ ty,(Builtin.append_ #[120,3] ty #[.slice none 0 0,.int .i64 n]).run Tryz.prog w=_:=fun ty =>
   Go.Lib.run_append_nil_zeros w 120 3 ty 122 i0 _ .i64 .i64 Tryz.underlying120 Tryz.underlying3 hi hz0 n hpos (by omega) (by omega) (by rw [hz2];omega)
  have hG:=grownCap_ge w n 0 122;have hM:=grownCap_le_maxLen w n 0 122 (by unfold maxLen;omega);generalize grownCap w n 0 122=G at hr hG hM;have hM2:(G:Int)<=9223372036854775807:=by unfold maxLen at hM;omega
  have hsz:(Builtin.zeroCells (Value.agg #[.slice none 0 0,.slice none 0 0,.int .i64 0,.int .i64 0]).cells n++Builtin.zeroCells (Value.agg #[.slice none 0 0,.slice none 0 0,.int .i64 0,.int .i64 0]).cells (G - n)).size=G*4:=by
   rw [Array.size_append,zeros_len,zeros_len]
   show n*4+(G - n)*4=G*4
   omega
  generalize (Builtin.zeroCells (Value.agg #[.slice none 0 0,.slice none 0 0,.int .i64 0,.int .i64 0]).cells n++Builtin.zeroCells (Value.agg #[.slice none 0 0,.slice none 0 0,.int .i64 0,.int .i64 0]).cells (G - n))=Z at hr hsz
  have HO:Hid ((w.drew.alloc (.cells Z 122)).ownsRow w.heap.size 122 4 (.slice (some ⟨w.heap.size,0,none⟩) 0 G) 0 []) :=
   ⟨rfl,.inr ⟨w.heap.size,G,Z,rfl,Nat.le_refl _,heap_alloc_new w.drew _,by omega,hM,hsz,by simp⟩⟩
  have HG:Hid (w.grownBy (w.drew.alloc (.cells Z 122)) none):=gZq ((Qt.refl w).drew.grown none) (World.grownBy_alloc _ _ none);clear hM hsz;go_enter Tryz.func178,Tryz.ntmps178
  go_wp2_with (at_builtin;refine Go.Lib.wpList_append_run _ rfl _ _ _ _ rfl _ _ rfl rfl _ _ (hr _) ?_)
  all_goals (go_ret;exact ⟨_,rfl,HO.out,HG.out⟩)
structure Ils (w:World)(q:Option Addr)(Ls:List (List It)):Prop where
 row:∀ j,j<Ls.length->∃ B o a n c,q=some ⟨B,o,none⟩/\w.cell? ⟨B,o+j,none⟩=some (.slice a n c)/\Il w a (Ls.getD j [])/\(Ls.getD j []).length=n/\(a=none->c=0)
def tot {T:Type}(Ls:List (List T))(j:Nat):Nat:=(Ls.take j).flatten.length
theorem flat_snoc {T:Type}(Ls:List (List T)){j:Nat}(h:j<Ls.length):(Ls.take (j+1)).flatten=(Ls.take j).flatten++Ls.getD j []:=by
 rw [List.take_add_one,List.getElem?_eq_getElem h,List.flatten_append];simp [List.getD,List.getElem?_eq_getElem h]
theorem tot_snoc {T:Type}(Ls:List (List T)){j:Nat}(h:j<Ls.length):tot Ls (j+1)=tot Ls j+(Ls.getD j []).length:=by
 unfold tot;rw [flat_snoc Ls h,List.length_append]
theorem tot_mono {T:Type}(Ls:List (List T))(j:Nat):tot Ls j<=Ls.flatten.length:=by
 unfold tot
 conv=>rhs;rw [<- List.take_append_drop j Ls,List.flatten_append,List.length_append]
 omega
theorem concat_it (q:Option Addr)(m cp:Nat)(Ls:List (List It))(w:World)(hl:Ils w q Ls)(hm:Ls.length=m)(hm2:m<=1000)(ht:Ls.flatten.length<=100000) :
  Calls Tryz.prog 177 #[.slice q m cp] w fun en w'=>(∃ a c,en=.returned (.slice a Ls.flatten.length c)/\Il w' a Ls.flatten/\Ls.flatten.length<=c/\c<=9223372036854775807)/\w.grownBy w' none:=by
 have HL:=hZq hl;have HT:=hZq (fun j=>Nat.le_trans (tot_mono Ls j) ht);have HS:=hZq (fun (j:Nat) (h:j<m)=>tot_snoc Ls (j:=j) (by omega));have HF:=hZq (fun (j:Nat) (h:j<m)=>flat_snoc Ls (j:=j) (by omega))
 have HE:Hid (tot Ls m=Ls.flatten.length/\(Ls.take m).flatten=Ls.flatten):=by
  unfold tot;rw [<- hm,List.take_length];exact ⟨rfl,rfl⟩
 clear hl;go_enter Tryz.func177,Tryz.ntmps177;go_wp2;go_loopw [3,5,11] (fun sn _ si wr=>∃ i:Nat,i<=m/\si=.int .i64 i/\sn=.int .i64 ((tot Ls i:Nat):Int)/\w=wr) (fun _ _ si _=>m - (intOf si).toNat)
 case atStart=>exact ⟨0,Nat.zero_le _,rfl,rfl,rfl⟩
 case round =>
  obtain ⟨i,hi,rfl,rfl,rfl⟩:=hrel;have b1:=HT.out i
  by_cases hlt:i<m
  ·obtain ⟨B,o,a,n,c,rfl,h2,h3,h4,h5⟩:=HL.out.row i (by omega)
   have hs:=HS.out i hlt;have b2:=HT.out (i+1);rw [h4] at hs;clear h3 h4 h5;generalize tot Ls i=t at *;have hs2:=hZq hs;have b3:t+n<=100000:=by rw [<- hs];exact b2
   clear hs b2;go_wp2;go_roundw
   case rel=>exact ⟨i+1,by omega,by go_num,by rw [hs2.out];go_num,trivial⟩
   case measure=>simp [intOf];omega
  ·have hin:i=m:=by omega
   subst hin;obtain ⟨N,hN⟩:∃ N,tot Ls i=N:=⟨_,rfl⟩;have HN:=hZq hN;rw [hN] at b1 ⊢;clear hN
   go_wp2_with fail
   refine (grow_it N w b1).mono ?_;rintro en w1 ⟨v,rfl,ho1,hg1⟩;have HO1:=hZq ho1;have HG1:=hZq hg1;clear ho1 hg1;go_wp2;go_loopw [6,8,27] (fun sv _ si wx=>∃ (j:Nat) (xs:List Value),j<=i/\si=.int .i64 j/\Iw w xs (Ls.take j).flatten/\wx.ownsRow w.heap.size 122 4 sv (tot Ls j) xs/\w.grownBy wx none) (fun _ _ si _=>i - (intOf si).toNat)
   case atStart=>exact ⟨0,[],Nat.zero_le _,rfl,Iw.nil _,HO1.out,HG1.out⟩
   case round =>
    obtain ⟨j,xs,hj,rfl,hiw,hown,hg⟩:=hrel;have HI:=hZq hiw;have HO:=hZq hown;have HG:=hZq hg;have hsz:=hg.size;clear hiw hown hg HO1 HG1
    by_cases hjt:j<i
    ·obtain ⟨B,o,a,n,c,rfl,h2,h3,h4,h5⟩:=HL.out.row j (by omega)
     have c1:=HG.out.cell h2 (by simp);have hs:=HS.out j hjt;have b2:=HT.out (j+1);rw [h4] at hs;have b3:tot Ls j+n<=100000:=by rw [<- hs];exact b2
     have HS2:=hZq hs;have HF2:=hZq (HF.out j hjt);have H3:=hZq h3;clear h2 h3 hs b2;generalize Ls.getD j []=X at *
     go_wp2_with (at_builtin;refine wpList_append_il (w0:=w) rfl _ _ rfl w.heap.size u6 (tot Ls j) xs (Ls.take j).flatten rfl HO.out HI.out a n c X rfl H3.out HG.out h4 h5 b3 hsz ?_)
     intro v2 w2 xs2 ho2 hi2 hg2;have HO2:=hZq ho2;have HI2:=hZq hi2;have HG2:=hZq (grown_own9 HG.out HO.out (Nat.le_refl _) hg2);rw [<- HS2.out] at HO2;rw [<- HF2.out] at HI2;clear ho2 hi2 hg2 HO HI HG c1 h5;go_wp2;go_roundw
     case rel=>exact ⟨j+1,xs2,by omega,by go_num,HI2.out,HO2.out,HG2.out⟩
     case measure=>simp [intOf];omega
    ·have hji:j=i:=by omega
     subst hji;obtain ⟨a2,cap2,e1,e2,e3⟩:=HI.out.il HG.out HO.out
     have hcap:tot Ls j<=cap2/\cap2<=9223372036854775807:=by
      rcases HO.out.2 with ⟨k1,k2⟩ | ⟨g,cap,cur,k1,_,_,k2,k3,_⟩
      ·rw [k1] at e1
       simp only [Value.slice.injEq] at e1;omega
      ·rw [k1] at e1
       simp only [Value.slice.injEq] at e1;unfold maxLen at k3;omega
     have HM:=hZq e2;subst e1;clear e2 HO HI HL;go_wp2;go_ret;rw [HE.out.2] at HM;have hE:=HE.out.1;exact ⟨⟨a2,cap2,by rw [<- hE];rfl,HM.out,by omega,hcap.2⟩,HG.out⟩
theorem flat2 {T:Type}(A B:List T):[A,B].flatten=A++B:=by simp
theorem joinLeaves_any (a:Option Addr)(n cap:Nat)(A:List It)(b:Option Addr)(m d:Nat)(B:List It)(w:World)(ha:Il w a A)(hn:A.length=n)(ha0:a=none->cap=0)(hb:Il w b B)(hm:B.length=m)(hb0:b=none->d=0)
  (hs:n+m<=5000) (hk:∀ x∈A++B,x.key.length<=140737488351232) :
  Calls Tryz.prog 176 #[.slice a n cap,.slice b m d] w fun en w'=>en=.returned (.bool (decide (size (A++B)<=3000)))/\w.grownBy w' none:=by
 have hdec:decide (size (A++B)<=3000)=decide (((size (A++B):Nat):Int)<=3000):=by congr 1;apply propext;omega
 rw [hdec];have HG:=hZq (World.grownBy_alloc w (.cells #[.slice a n cap,.slice b m d] 120) none)
 have HL:Hid (Ils (w.alloc (.cells #[.slice a n cap,.slice b m d] 120)) (some ⟨w.heap.size,0,none⟩) [A,B]):=by
  have hrow:=heap_alloc_new w (.cells #[.slice a n cap,.slice b m d] 120);refine ⟨fun j hj=>?_⟩
  match j,hj with
  | 0,_=>exact ⟨_,0,a,n,cap,rfl,by rw [cell_of_row _ w.heap.size _ _ _ (0,0) hrow];rfl,ha.keptN HG.out,hn,ha0⟩
  | 1,_=>exact ⟨_,0,b,m,d,rfl,by rw [cell_of_row _ w.heap.size _ _ _ (0,0) hrow];rfl,hb.keptN HG.out,hm,hb0⟩
  | k+2,h =>
   have h2:k+2<2:=h;omega
 have hfl:([A,B].flatten).length=n+m:=by rw [flat2,List.length_append,hn,hm]
 have HC:=hZq (concat_it (some ⟨w.heap.size,0,none⟩) 2 2 [A,B] _ HL.out rfl (by omega) (by omega));rw [flat2] at hfl HC;have HK:=hZq hk;rw [hfl] at HC;clear ha hb hk hdec HL;generalize A++B=C at *;go_enter Tryz.func176,Tryz.ntmps176
 go_wp2_with fail
 refine HC.out.mono ?_;rintro en w1 ⟨⟨a1,c1,rfl,hl1,h2,h3⟩,hg1⟩;have H1:=hZq hl1;have HG1:=hZq (gZq HG.out hg1);clear hl1 hg1 HC HG
 go_wp2_with fail
 refine (size_any a1 (n+m) c1 C _ H1.out hfl hs HK.out).mono ?_;rintro en w2 ⟨rfl,hg2⟩;have HG2:=hZq (gZq HG1.out hg2);clear hg2 HG1;go_wp2;go_ret;exact ⟨rfl,HG2.out⟩
theorem grow_by (n:Nat)(w:World)(hn:n<=100000) :
  Calls Tryz.prog 201 #[.slice none 0 0,.int .i64 n] w fun en w'=>∃ v,en=.returned v/\w'.ownsRow w.heap.size 62 1 v 0 []/\w.grownBy w' none:=by
 by_cases h0:n=0
 ·subst h0
  go_enter Tryz.func201,Tryz.ntmps201;go_wp2;go_ret;exact ⟨_,rfl,⟨rfl,.inl ⟨rfl,rfl⟩⟩,World.grownBy.refl _ _⟩
 ·obtain ⟨i0,hi,hz0,hz1,hz2⟩:=info_parts info_bytesS
  have hpos:0<n:=by omega
  have hr:∀ ty,(Builtin.append_ #[59,3] ty #[.slice none 0 0,.int .i64 n]).run Tryz.prog w=_:=fun ty =>
   Go.Lib.run_append_nil_zeros w 59 3 ty 62 i0 _ .i64 .i64 Tryz.underlying59 Tryz.underlying3 hi hz0 n hpos (by omega) (by omega) (by rw [hz2];omega)
  have hG:=grownCap_ge w n 0 62;have hM:=grownCap_le_maxLen w n 0 62 (by unfold maxLen;omega);generalize grownCap w n 0 62=G at hr hG hM;have hM2:(G:Int)<=9223372036854775807:=by unfold maxLen at hM;omega
  have hsz:(Builtin.zeroCells (Value.slice none 0 0).cells n++Builtin.zeroCells (Value.slice none 0 0).cells (G - n)).size=G*1:=by
   rw [Array.size_append,zeros_len,zeros_len]
   show n*1+(G - n)*1=G*1
   omega
  generalize (Builtin.zeroCells (Value.slice none 0 0).cells n++Builtin.zeroCells (Value.slice none 0 0).cells (G - n))=Z at hr hsz
  have HO:Hid ((w.drew.alloc (.cells Z 62)).ownsRow w.heap.size 62 1 (.slice (some ⟨w.heap.size,0,none⟩) 0 G) 0 []) :=
   ⟨rfl,.inr ⟨w.heap.size,G,Z,rfl,Nat.le_refl _,heap_alloc_new w.drew _,by omega,hM,hsz,by simp⟩⟩
  have HG:Hid (w.grownBy (w.drew.alloc (.cells Z 62)) none):=gZq ((Qt.refl w).drew.grown none) (World.grownBy_alloc _ _ none);clear hM hsz;go_enter Tryz.func201,Tryz.ntmps201
  go_wp2_with (at_builtin;refine Go.Lib.wpList_append_run _ rfl _ _ _ _ rfl _ _ rfl rfl _ _ (hr _) ?_)
  all_goals (go_ret;exact ⟨_,rfl,HO.out,HG.out⟩)
structure Lls (w:World)(q:Option Addr)(Ls:List (List (List Int))):Prop where
 row:∀ j,j<Ls.length->∃ B o a n c,q=some ⟨B,o,none⟩/\w.cell? ⟨B,o+j,none⟩=some (.slice a n c)/\Lz w a (Ls.getD j [])/\(Ls.getD j []).length=n/\(a=none->c=0)
theorem concat_by (q:Option Addr)(m cp:Nat)(Ls:List (List (List Int)))(w:World)(hl:Lls w q Ls)(hm:Ls.length=m)(hm2:m<=1000)(ht:Ls.flatten.length<=100000) :
  Calls Tryz.prog 197 #[.slice q m cp] w fun en w'=>(∃ a c,en=.returned (.slice a Ls.flatten.length c)/\Lz w' a Ls.flatten/\Ls.flatten.length<=c/\c<=9223372036854775807)/\w.grownBy w' none:=by
 have HL:=hZq hl;have HT:=hZq (fun j=>Nat.le_trans (tot_mono Ls j) ht);have HS:=hZq (fun (j:Nat) (h:j<m)=>tot_snoc Ls (j:=j) (by omega));have HF:=hZq (fun (j:Nat) (h:j<m)=>flat_snoc Ls (j:=j) (by omega))
 have HE:Hid (tot Ls m=Ls.flatten.length/\(Ls.take m).flatten=Ls.flatten):=by
  unfold tot;rw [<- hm,List.take_length];exact ⟨rfl,rfl⟩
 clear hl;go_enter Tryz.func197,Tryz.ntmps197;go_wp2;go_loopw [3,5,11] (fun sn _ si wr=>∃ i:Nat,i<=m/\si=.int .i64 i/\sn=.int .i64 ((tot Ls i:Nat):Int)/\w=wr) (fun _ _ si _=>m - (intOf si).toNat)
 case atStart=>exact ⟨0,Nat.zero_le _,rfl,rfl,rfl⟩
 case round =>
  obtain ⟨i,hi,rfl,rfl,rfl⟩:=hrel;have b1:=HT.out i
  by_cases hlt:i<m
  ·obtain ⟨B,o,a,n,c,rfl,h2,h3,h4,h5⟩:=HL.out.row i (by omega)
   have hs:=HS.out i hlt;have b2:=HT.out (i+1);rw [h4] at hs;clear h3 h4 h5;generalize tot Ls i=t at *;have hs2:=hZq hs;have b3:t+n<=100000:=by rw [<- hs];exact b2
   clear hs b2;go_wp2;go_roundw
   case rel=>exact ⟨i+1,by omega,by go_num,by rw [hs2.out];go_num,trivial⟩
   case measure=>simp [intOf];omega
  ·have hin:i=m:=by omega
   subst hin;obtain ⟨N,hN⟩:∃ N,tot Ls i=N:=⟨_,rfl⟩;have HN:=hZq hN;rw [hN] at b1 ⊢;clear hN
   go_wp2_with fail
   refine (grow_by N w b1).mono ?_;rintro en w1 ⟨v,rfl,ho1,hg1⟩;have HO1:=hZq ho1;have HG1:=hZq hg1;clear ho1 hg1;go_wp2;go_loopw [6,8,27] (fun sv _ si wx=>∃ (j:Nat) (xs:List Value),j<=i/\si=.int .i64 j/\Sw w xs (Ls.take j).flatten/\wx.ownsRow w.heap.size 62 1 sv (tot Ls j) xs/\w.grownBy wx none) (fun _ _ si _=>i - (intOf si).toNat)
   case atStart=>exact ⟨0,[],Nat.zero_le _,rfl,Sw.nil _,HO1.out,HG1.out⟩
   case round =>
    obtain ⟨j,xs,hj,rfl,hiw,hown,hg⟩:=hrel;have HI:=hZq hiw;have HO:=hZq hown;have HG:=hZq hg;have hsz:=hg.size;clear hiw hown hg HO1 HG1
    by_cases hjt:j<i
    ·obtain ⟨B,o,a,n,c,rfl,h2,h3,h4,h5⟩:=HL.out.row j (by omega)
     have c1:=HG.out.cell h2 (by simp);have hs:=HS.out j hjt;have b2:=HT.out (j+1);rw [h4] at hs;have b3:tot Ls j+n<=100000:=by rw [<- hs];exact b2
     have HS2:=hZq hs;have HF2:=hZq (HF.out j hjt);have H3:=hZq h3;clear h2 h3 hs b2;generalize Ls.getD j []=X at *
     go_wp2_with (at_builtin;refine wpList_append_lz (w0:=w) rfl _ _ rfl w.heap.size u6 (tot Ls j) xs (Ls.take j).flatten rfl HO.out HI.out a n c X rfl H3.out HG.out h4 h5 b3 hsz ?_)
     intro v2 w2 xs2 ho2 hi2 hg2;have HO2:=hZq ho2;have HI2:=hZq hi2;have HG2:=hZq (grown_own9 HG.out HO.out (Nat.le_refl _) hg2);rw [<- HS2.out] at HO2;rw [<- HF2.out] at HI2;clear ho2 hi2 hg2 HO HI HG c1 h5;go_wp2;go_roundw
     case rel=>exact ⟨j+1,xs2,by omega,by go_num,HI2.out,HO2.out,HG2.out⟩
     case measure=>simp [intOf];omega
    ·have hji:j=i:=by omega
     subst hji;obtain ⟨a2,cap2,e1,e2,e3,e4,e5⟩:=HI.out.lz HG.out HO.out
     have hcap:tot Ls j<=cap2/\cap2<=9223372036854775807:=by
      rcases HO.out.2 with ⟨k1,k2⟩ | ⟨g,cap,cur,k1,_,_,k2,k3,_⟩
      ·rw [k1] at e1
       simp only [Value.slice.injEq] at e1;omega
      ·rw [k1] at e1
       simp only [Value.slice.injEq] at e1;unfold maxLen at k3;omega
     have HM:=hZq e2;subst e1;clear e2 HO HI HL;go_wp2;go_ret;rw [HE.out.2] at HM;have hE:=HE.out.1;exact ⟨⟨a2,cap2,by rw [<- hE];rfl,HM.out,by omega,hcap.2⟩,HG.out⟩
theorem flat3 {T:Type}(A B C:List T):[A,B,C].flatten=A++(B++C):=by simp
theorem joinBranches_any (a:Option Addr)(n cap:Nat)(A:List (List Int))(so:Option Addr)(sn sc:Nat)(S:List Int)(b:Option Addr)(m d:Nat)(B:List (List Int))(w:World)(ha:Lz w a A)(hn:A.length=n)(ha0:a=none->cap=0)(hS:Byt w so sn sc S)(hs1:sn<=sc)(hs2:sc<=9223372036854775807)(hb:Lz w b B)(hm:B.length=m)(hb0:b=none->d=0)
  (hs:n+m<=4900) (hk:∀ x∈A++([S]++B),x.length<=140737488351232) :
  Calls Tryz.prog 193 #[.slice a n cap,.slice so sn sc,.slice b m d] w fun en w'=>en=.returned (.bool (decide (bsize (A++([S]++B))<=3000)))/\w.grownBy w' none:=by
 have hdec:decide (bsize (A++([S]++B))<=3000)=decide (((bsize (A++([S]++B)):Nat):Int)<=3000):=by congr 1;apply propext;omega
 rw [hdec];have HG0:=World.grownBy_alloc w (.cells #[.slice so sn sc] 62) none
 have h0:(w.alloc (.cells #[.slice so sn sc] 62)).cell? ⟨w.heap.size,0,none⟩=some (.slice so sn sc):=by
  rw [cell_of_row _ w.heap.size 0 _ _ (0,0) (heap_alloc_new w _)];rfl
 have HZ:Lz (w.alloc (.cells #[.slice so sn sc] 62)) (some ⟨w.heap.size,0,none⟩) [S]:=by
  refine ⟨fun j hj=>?_⟩
  match j,hj with
  | 0,_=>exact ⟨_,0,so,sn,sc,rfl,h0,hS.keptN HG0,hs1,hs2⟩
  | k+1,h =>
   have h2:k+1<1:=h;omega
 have ha':=ha.keptN HG0;have hb':=hb.keptN HG0;have hsz:(w.alloc (.cells #[.slice so sn sc] 62)).heap.size=w.heap.size+1:=by simp
 have HG1:=World.grownBy_alloc (w.alloc (.cells #[.slice so sn sc] 62)) (.cells #[.slice a n cap,.slice (some ⟨w.heap.size,0,none⟩) 1 1,.slice b m d] 59) none;have hrow:=heap_alloc_new (w.alloc (.cells #[.slice so sn sc] 62)) (.cells #[.slice a n cap,.slice (some ⟨w.heap.size,0,none⟩) 1 1,.slice b m d] 59);have HG:=hZq (gZq HG0 HG1)
 have HL:Hid (Lls ((w.alloc (.cells #[.slice so sn sc] 62)).alloc (.cells #[.slice a n cap,.slice (some ⟨w.heap.size,0,none⟩) 1 1,.slice b m d] 59)) (some ⟨w.heap.size+1,0,none⟩) [A,[S],B]):=by
  rw [hsz] at hrow;refine ⟨fun j hj=>?_⟩
  match j,hj with
  | 0,_=>exact ⟨_,0,a,n,cap,rfl,by rw [cell_of_row _ (w.heap.size+1) _ _ _ (0,0) hrow];rfl,ha'.keptN HG1,hn,ha0⟩
  | 1,_=>exact ⟨_,0,_,1,1,rfl,by rw [cell_of_row _ (w.heap.size+1) _ _ _ (0,0) hrow];rfl,HZ.keptN HG1,rfl,fun e=>by cases e⟩
  | 2,_=>exact ⟨_,0,b,m,d,rfl,by rw [cell_of_row _ (w.heap.size+1) _ _ _ (0,0) hrow];rfl,hb'.keptN HG1,hm,hb0⟩
  | k+3,h =>
   have h2:k+3<3:=h;omega
 have hfl:([A,[S],B].flatten).length=n+(1+m):=by rw [flat3,List.length_append,List.length_append,hn,hm];rfl
 have HC:=hZq (concat_by (some ⟨w.heap.size+1,0,none⟩) 3 3 [A,[S],B] _ HL.out rfl (by omega) (by omega));rw [flat3] at hfl HC;have HK:=hZq hk;rw [hfl] at HC;obtain ⟨N,hN⟩:∃ N,n+(1+m)=N:=⟨_,rfl⟩;have hN5:N<=5000:=by omega
 rw [hN] at hfl HC;clear ha hb hk hdec HL HG0 HG1 hrow hsz h0 HZ ha' hb' hN;generalize A++([S]++B)=C at *;go_enter Tryz.func193,Tryz.ntmps193
 go_wp2_with fail
 refine HC.out.mono ?_;rintro en w1 ⟨⟨a1,c1,rfl,hl1,h2,h3⟩,hg1⟩;have H1:=hZq hl1;have HG1:=hZq (gZq HG.out hg1);clear hl1 hg1 HC HG
 go_wp2_with fail
 refine (bsize_any a1 N c1 C _ H1.out hfl hN5 h2 h3 HK.out).mono ?_;rintro en w2 ⟨rfl,hg2⟩;have HG2:=hZq (gZq HG1.out hg2);clear hg2 HG1;go_wp2;go_ret;exact ⟨rfl,HG2.out⟩
theorem flat_in {T:Type}{k:Nat}:∀ {es:List (List T)} {j:Nat} {u:T},(∀ e∈es,e.length=k)->es.flatten[j]?=some u->∃ i f e,es[i]?=some e/\e[f]?=some u/\j=i*k+f
 | [],_,_,_,h=>by simp at h
 | e::es,j,u,hs,h=>by
  have he:=hs e List.mem_cons_self;rw [List.flatten_cons] at h
  by_cases hj:j<e.length
  ·rw [List.getElem?_append_left hj] at h
   exact ⟨0,j,e,rfl,h,by omega⟩
  ·rw [List.getElem?_append_right (by omega)] at h
   obtain ⟨i,f,e',h1,h2,h3⟩:=flat_in (fun x hx=>hs x (List.mem_cons_of_mem _ hx)) h;exact ⟨i+1,f,e',by simpa using h1,h2,by rw [Nat.add_mul];omega⟩
theorem flat_out {T:Type}{k:Nat}:∀ {es:List (List T)} {i f:Nat} {e:List T} {u:T},(∀ e∈es,e.length=k)->es[i]?=some e->e[f]?=some u->es.flatten[i*k+f]?=some u
 | [],_,_,_,_,_,h,_=>by simp at h
 | e::es,0,f,e',u,hs,h,h2=>by
  simp only [List.getElem?_cons_zero,Option.some.injEq] at h;subst h;have:=(List.getElem?_eq_some_iff.1 h2).1;rw [List.flatten_cons,Nat.zero_mul,Nat.zero_add,List.getElem?_append_left this];exact h2
 | e::es,i+1,f,e',u,hs,h,h2=>by
  have he:=hs e List.mem_cons_self;rw [List.flatten_cons,List.getElem?_append_right (by rw [Nat.add_mul];omega)];have:=flat_out (i:=i) (fun x hx=>hs x (List.mem_cons_of_mem _ hx)) (by simpa using h) h2;rw [<- this]
  congr 1
  rw [Nat.add_mul];omega
theorem flat_len {T:Type}{k:Nat}:∀ {es:List (List T)},(∀ e∈es,e.length=k)->es.flatten.length=es.length*k
 | [],_=>by simp
 | e::es,hs=>by
  rw [List.flatten_cons,List.length_append,hs e List.mem_cons_self,flat_len (fun x hx=>hs x (List.mem_cons_of_mem _ hx)),List.length_cons,Nat.add_mul];omega
def TgT (w:World)(b:Nat)(t:TypeId):Prop:=∃ cur z,w.heap[b]?=some (.cells cur t z)
def ScT (t:TypeId):Bool:=t==89 || t==24 || t==61 || t==112 || t==118
structure FrT (w w':World):Prop where
 keep:∀ (b:Nat) (t:TypeId) (cur:Array Value) (z:Nat × Nat),ScT t=false->w.heap[b]?=some (Obj.cells cur t z)->w'.heap[b]?=some (Obj.cells cur t z)
theorem FrT.trans {a b c:World}(h:FrT a b)(k:FrT b c):FrT a c:=⟨fun b t cur z ht e=>k.keep b t cur z ht (h.keep b t cur z ht e)⟩
theorem FrT.of {w w':World}(hg:w.grownBy w' none):FrT w w':=⟨fun b t cur z _ e=>by
 rw [hg.block b (Array.getElem?_eq_some_iff.1 e).1 (by simp)];exact e⟩
theorem FrT.set {w:World}{g i:Nat}{cs:Array Value}{z:Nat × Nat}{v:Value}{y:TypeId}(h:w.heap[g]?=some (.cells cs y z))(hy:ScT y=true):FrT w (w.setCell ⟨g,i,none⟩ v):=⟨fun b t cur z' ht e=>by
 have hne:b≠g:=fun e2=>by
  subst e2;rw [h] at e;simp only [Option.some.injEq,Obj.cells.injEq] at e;rw [<- e.2.1,hy] at ht;cases ht
 rw [heap_setCell_other w ⟨g,i,none⟩ b v (fun e2=>hne e2)];exact e⟩
theorem FrT.tg {w w':World}(h:FrT w w'){b:Nat}{t:TypeId}(ht:ScT t=false)(k:TgT w b t):TgT w' b t:=by
 obtain ⟨cur,z,e⟩:=k;exact ⟨cur,z,h.keep b t cur z ht e⟩
theorem FrT.cell {w w':World}(h:FrT w w'){b i:Nat}{t:TypeId}{v:Value}(ht:ScT t=false)(k:TgT w b t)(hc:w.cell? ⟨b,i,none⟩=some v):w'.cell? ⟨b,i,none⟩=some v:=by
 obtain ⟨cur,z,e⟩:=k;rw [<- hc];exact World.cell?_of_block (by show w'.heap[b]?=w.heap[b]?;rw [h.keep b t cur z ht e,e])
structure EsT (w:World)(t:TypeId)(a:Option Addr)(n c k:Nat)(es:List (List Value)):Prop where
 len:es.length=n
 cap:n<=c
 c2:c<=9223372036854775807
 nil:a=none->c=0
 pl:∀ x,a=some x->∃ b off,x=⟨b,off,none⟩
 sz:∀ e∈es,e.length=k
 one:∀ e∈es,∀ v∈e,v.oneCell'=true
 cell:∀ i e,es[i]?=some e->∃ b off,a=some ⟨b,off,none⟩/\TgT w b t/\∀ f v,e[f]?=some v->w.cell? ⟨b,off+i*k+f,none⟩=some v
theorem EsT.kept {w w':World}{t:TypeId}{a:Option Addr}{n c k:Nat}{es:List (List Value)}(h:EsT w t a n c k es)(ht:ScT t=false)(hg:FrT w w'):EsT w' t a n c k es :=
 ⟨h.len,h.cap,h.c2,h.nil,h.pl,h.sz,h.one,fun i e he=>by
  obtain ⟨b,off,h1,h2,h3⟩:=h.cell i e he;exact ⟨b,off,h1,hg.tg ht h2,fun f v hv=>hg.cell ht h2 (h3 f v hv)⟩⟩
theorem EsT.nul (w:World)(t:TypeId)(k:Nat):EsT w t none 0 0 k []:=⟨rfl,Nat.le_refl _,by omega,fun _=>rfl,(fun x h=>by cases h),fun e h=>by simp at h,fun e h=>by simp at h,fun i e h=>by simp at h⟩
theorem EsT.zero (w:World)(t:TypeId)(a:Option Addr)(c k:Nat)(h1:c<=9223372036854775807)(h2:a=none->c=0)(h3:∀ x,a=some x->∃ b off,x=⟨b,off,none⟩):EsT w t a 0 c k []:=⟨rfl,Nat.zero_le _,h1,h2,h3,fun e h=>by simp at h,fun e h=>by simp at h,fun i e h=>by simp at h⟩
theorem EsT.take {w:World}{t:TypeId}{a:Option Addr}{n c k:Nat}{es:List (List Value)}(h:EsT w t a n c k es){i:Nat}(hi:i<=n):EsT w t a i c k (es.take i):=by
 have hl:=h.len;have hc:=h.cap;refine ⟨by rw [List.length_take];omega,by omega,h.c2,h.nil,h.pl,fun e he=>h.sz e (List.mem_of_mem_take he),fun e he=>h.one e (List.mem_of_mem_take he),fun j e he=>?_⟩;rw [List.getElem?_take] at he
 split at he
 ·exact h.cell j e he
 ·cases he
theorem EsT.drop {w:World}{t:TypeId}{b off:Nat}{n c k:Nat}{es:List (List Value)}(h:EsT w t (some ⟨b,off,none⟩) n c k es){i:Nat}(hi:i<=n):EsT w t (some ⟨b,off+i*k,none⟩) (n - i) (c - i) k (es.drop i):=by
 have hl:=h.len;have hc:=h.cap;refine ⟨by rw [List.length_drop];omega,by omega,by have:=h.c2;omega,(fun e=>by cases e),(fun x hx=>by cases hx;exact ⟨_,_,rfl⟩),fun e he=>h.sz e (List.mem_of_mem_drop he),fun e he=>h.one e (List.mem_of_mem_drop he),fun j e he=>?_⟩;rw [List.getElem?_drop] at he;obtain ⟨b',off',h1,h2,h3⟩:=h.cell (i+j) e he;simp only [Option.some.injEq,Addr.mk.injEq] at h1;obtain ⟨rfl,rfl,_⟩:=h1;refine ⟨b,off+i*k,rfl,h2,fun f v hv=>?_⟩;have:=h3 f v hv;rw [Nat.add_mul] at this;rw [show off+i*k+j*k+f=off+(i*k+j*k)+f by omega];exact this
theorem EsT.where {w:World}{t:TypeId}{a:Option Addr}{n c k:Nat}{es:List (List Value)}(h:EsT w t a n c k es)(hn:0<n):∃ b off,a=some ⟨b,off,none⟩:=by
 have hl:=h.len;obtain ⟨b,off,h1,_⟩:=h.cell 0 _ (List.getElem?_eq_getElem (by omega));exact ⟨b,off,h1⟩
theorem EsT.cells {w:World}{t:TypeId}{ad:Addr}{n c k:Nat}{es:List (List Value)}(h:EsT w t (some ad) n c k es):(∀ j u,es.flatten[j]?=some u->w.cell? (ad.add j)=some u)/\(∀ u∈es.flatten,u.oneCell'=true)/\es.flatten.length=n*k:=by
 refine ⟨fun j u hu=>?_,fun u hu=>?_,by rw [flat_len h.sz,h.len]⟩
 ·obtain ⟨i,f,e,h1,h2,rfl⟩:=flat_in h.sz hu
  obtain ⟨b,off,e1,_,e2⟩:=h.cell i e h1;simp only [Option.some.injEq] at e1;subst e1;rw [Addr.add_lit,<- Nat.add_assoc];exact e2 f u h2
 ·obtain ⟨e,he,hu⟩:=List.mem_flatten.1 hu
  exact h.one e he u hu
theorem EsT.of_owns {w:World}{base n k:Nat}{t:TypeId}{v:Value}{es:List (List Value)}(ho:w.ownsRow base t k v n es.flatten)(hk:0<k)(hs:∀ e∈es,e.length=k)(h1:∀ e∈es,∀ v∈e,v.oneCell'=true):∃ a c,v=.slice a n c/\EsT w t a n c k es:=by
 have hl:es.length=n:=by
  have:=ho.1;rw [flat_len hs] at this;exact Nat.eq_of_mul_eq_mul_right hk this
 rcases ho.2 with ⟨rfl,e0⟩ | ⟨g,cap,cur,rfl,_,hgb,hc,hm,_⟩
 ·subst e0
  have:es=[]:=List.length_eq_zero_iff.1 hl;subst this;exact ⟨_,_,rfl,EsT.nul w t k⟩
 ·refine ⟨_,cap,rfl,hl,hc,by unfold maxLen at hm;omega,(fun e=>by cases e),(fun x hx=>by cases hx;exact ⟨_,_,rfl⟩),hs,h1,fun i e he=>⟨g,0,rfl,⟨_,_,hgb⟩,fun f v hv=>?_⟩⟩
  have h2:=flat_out hs he hv;rw [Nat.zero_add,ho.cellAt _ (by have:=(List.getElem?_eq_some_iff.1 h2).1;have:=ho.1;omega)];exact h2
theorem EsT.lit (w:World)(t:TypeId)(k:Nat)(es:List (List Value))(cs:Array Value)(hcs:cs=es.flatten.toArray)(hs:∀ e∈es,e.length=k)(h1:∀ e∈es,∀ v∈e,v.oneCell'=true)(hn:es.length<=100000) :
  EsT (w.alloc (.cells cs t)) t (some ⟨w.heap.size,0,none⟩) es.length es.length k es:=by
 refine ⟨rfl,Nat.le_refl _,by omega,(fun e=>by cases e),(fun x hx=>by cases hx;exact ⟨_,_,rfl⟩),hs,h1,fun i e he=>⟨_,0,rfl,⟨_,_,heap_alloc_new w _⟩,fun f v hv=>?_⟩⟩;have h2:=flat_out hs he hv;rw [cell_of_row _ w.heap.size _ _ _ (0,0) (heap_alloc_new w _),hcs];simpa using h2
structure ElyT {T:Type}(I:List Value->T->Prop)(es:List (List Value))(L:List T):Prop where
 len:es.length=L.length
 el:∀ (i:Nat) (e:List Value) (x:T),es[i]?=some e->L[i]?=some x->I e x
theorem ElyT.nil {T:Type}{I:List Value->T->Prop}:ElyT I [] []:=⟨rfl,fun i e x h=>by simp at h⟩
theorem ElyT.one {T:Type}{I:List Value->T->Prop}{e:List Value}{x:T}(h:I e x):ElyT I [e] [x]:=by
 refine ⟨rfl,fun i e' x' h1 h2=>?_⟩
 match i,h1,h2 with
 | 0,h1,h2 =>
  simp only [List.getElem?_cons_zero,Option.some.injEq] at h1 h2;subst h1;subst h2;exact h
 | i+1,h1,_=>simp at h1
theorem ElyT.app {T:Type}{I:List Value->T->Prop}{es es':List (List Value)}{L L':List T}(h:ElyT I es L)(k:ElyT I es' L'):ElyT I (es++es') (L++L'):=by
 have hl:=h.len;refine ⟨by rw [List.length_append,List.length_append,h.len,k.len],fun i e x h1 h2=>?_⟩
 by_cases hi:i<es.length
 ·rw [List.getElem?_append_left hi] at h1
  rw [List.getElem?_append_left (by omega)] at h2;exact h.el i e x h1 h2
 ·rw [List.getElem?_append_right (by omega)] at h1
  rw [List.getElem?_append_right (by omega)] at h2;exact k.el _ e x h1 (by rw [hl];exact h2)
theorem ElyT.take {T:Type}{I:List Value->T->Prop}{es:List (List Value)}{L:List T}(h:ElyT I es L)(i:Nat):ElyT I (es.take i) (L.take i):=by
 refine ⟨by rw [List.length_take,List.length_take,h.len],fun j e x h1 h2=>?_⟩;rw [List.getElem?_take] at h1 h2
 split at h1
 ·rename_i hj
  rw [if_pos hj] at h2;exact h.el j e x h1 h2
 ·cases h1
theorem ElyT.drop {T:Type}{I:List Value->T->Prop}{es:List (List Value)}{L:List T}(h:ElyT I es L)(i:Nat):ElyT I (es.drop i) (L.drop i):=by
 refine ⟨by rw [List.length_drop,List.length_drop,h.len],fun j e x h1 h2=>?_⟩;rw [List.getElem?_drop] at h1 h2;exact h.el _ e x h1 h2
theorem ElyT.mono {T:Type}{I J:List Value->T->Prop}{es:List (List Value)}{L:List T}(h:ElyT I es L)(k:∀ e x,I e x->J e x):ElyT J es L:=⟨h.len,fun i e x h1 h2=>k e x (h.el i e x h1 h2)⟩
theorem ElyT.get {T:Type}{I:List Value->T->Prop}{es:List (List Value)}{L:List T}(h:ElyT I es L){i:Nat}{x:T}(hx:L[i]?=some x):∃ e,es[i]?=some e/\I e x:=by
 have h1:=(List.getElem?_eq_some_iff.1 hx).1;have h3:i<es.length:=by rw [h.len];exact h1
 have h2:es[i]?=some es[i]:=List.getElem?_eq_getElem h3;exact ⟨_,h2,h.el i _ x h2 hx⟩
structure SlT {T:Type}(w:World)(t:TypeId)(k:Nat)(I:List Value->T->Prop)(a:Option Addr)(n c:Nat)(L:List T):Prop where
 ex:∃ es,EsT w t a n c k es/\ElyT I es L
theorem SlT.len {T:Type}{w:World}{t:TypeId}{k:Nat}{I:List Value->T->Prop}{a:Option Addr}{n c:Nat}{L:List T}(h:SlT w t k I a n c L):L.length=n:=by
 obtain ⟨es,h1,h2⟩:=h.ex;rw [<- h2.len,h1.len]
theorem SlT.cap {T:Type}{w:World}{t:TypeId}{k:Nat}{I:List Value->T->Prop}{a:Option Addr}{n c:Nat}{L:List T}(h:SlT w t k I a n c L):n<=c/\c<=9223372036854775807/\(a=none->c=0):=by
 obtain ⟨es,h1,h2⟩:=h.ex;exact ⟨h1.cap,h1.c2,h1.nil⟩
theorem SlT.mono {T:Type}{w w':World}{t:TypeId}{k:Nat}{I J:List Value->T->Prop}{a:Option Addr}{n c:Nat}{L:List T}(h:SlT w t k I a n c L)(ht:ScT t=false)(hg:FrT w w')(hI:∀ e x,I e x->J e x):SlT w' t k J a n c L:=by
 obtain ⟨es,h1,h2⟩:=h.ex;exact ⟨es,h1.kept ht hg,h2.mono hI⟩
theorem SlT.nil {T:Type}(w:World)(t:TypeId)(k:Nat)(I:List Value->T->Prop):SlT w t k I none 0 0 []:=⟨[],EsT.nul w t k,ElyT.nil⟩
theorem SlT.take {T:Type}{w:World}{t:TypeId}{k:Nat}{I:List Value->T->Prop}{a:Option Addr}{n c:Nat}{L:List T}(h:SlT w t k I a n c L){i:Nat}(hi:i<=n):SlT w t k I a i c (L.take i):=by
 obtain ⟨es,h1,h2⟩:=h.ex;exact ⟨es.take i,h1.take hi,h2.take i⟩
theorem SlT.drop {T:Type}{w:World}{t:TypeId}{k:Nat}{I:List Value->T->Prop}{b off:Nat}{n c:Nat}{L:List T}(h:SlT w t k I (some ⟨b,off,none⟩) n c L){i:Nat}(hi:i<=n):SlT w t k I (some ⟨b,off+i*k,none⟩) (n - i) (c - i) (L.drop i):=by
 obtain ⟨es,h1,h2⟩:=h.ex;exact ⟨es.drop i,h1.drop hi,h2.drop i⟩
theorem SlT.end {T:Type}{w:World}{t:TypeId}{k:Nat}{I:List Value->T->Prop}{a:Option Addr}{n c:Nat}{L:List T}(h:SlT w t k I a n c L){i:Nat}(hi:n<=i)(b:Option Addr)(d:Nat)(h1:d<=9223372036854775807)(h2:b=none->d=0)(h3:∀ x,b=some x->∃ b off,x=⟨b,off,none⟩):SlT w t k I b 0 d (L.drop i):=by
 have hl:=h.len;rw [List.drop_eq_nil_of_le (by omega)];exact ⟨[],EsT.zero w t b d k h1 h2 h3,ElyT.nil⟩
structure BtyT (w:World)(ao:Option Addr)(n c:Nat)(s:List Int):Prop where
 b:Byt w ao n c s
 t:∀ ad,ao=some ad->0<n->TgT w ad.block 5
 l1:n<=c
 l2:c<=9223372036854775807
theorem BtyT.kept {w w':World}{ao:Option Addr}{n c:Nat}{s:List Int}(h:BtyT w ao n c s)(hg:FrT w w'):BtyT w' ao n c s:=by
 refine ⟨⟨h.b.len,h.b.nil,fun ad had j u hu=>?_⟩,fun ad h1 h2=>hg.tg (by decide) (h.t ad h1 h2),h.l1,h.l2⟩;have hj:j<s.length:=by have:=(List.getElem?_eq_some_iff.1 hu).1;simpa using this
 have hl:=h.b.len;have h1:=h.b.cells ad had j u hu;obtain ⟨b,off,rfl,_,_⟩:=h.b.at (by omega);cases had;rw [Addr.add_lit] at h1 ⊢;exact hg.cell (t:=5) (by decide) (h.t _ rfl (by omega)) h1
theorem BtyT.of_owns {w:World}{base g n cap:Nat}{zs:List Int}(h:w.ownsRow base 5 1 (.slice (some ⟨g,0,none⟩) n cap) n (zs.map (Value.int .u8))):BtyT w (some ⟨g,0,none⟩) n cap zs:=by
 refine ⟨Byt.of_owns h,fun ad h1 _=>?_,?_,?_⟩
 ·cases h1
  rcases h.2 with ⟨h0,_⟩ | ⟨g',cap',cur,hv,_,hgb,_⟩
  ·cases h0
  ·injection hv with e1
   injection e1 with e1
   injection e1 with e4
   subst e4;exact ⟨_,_,hgb⟩
 ·rcases h.2 with ⟨h0,_⟩ | ⟨g',cap',cur,hv,_,hgb,h1,h2,_⟩
  ·cases h0
  ·injection hv with e1 e2 e3
   omega
 ·rcases h.2 with ⟨h0,_⟩ | ⟨g',cap',cur,hv,_,hgb,h1,h2,_⟩
  ·cases h0
  ·injection hv with e1 e2 e3
   unfold maxLen at h2;omega
theorem BtyT.nil (w:World):BtyT w none 0 0 []:=⟨Byt.empty w,(fun _ h=>by cases h),Nat.le_refl _,by omega⟩
def IbT (w:World)(e:List Value)(s:List Int):Prop:=∃ ao n c,e=[.slice ao n c]/\BtyT w ao n c s
def NmT (w:World)(a:Option Addr)(n c:Nat)(zs:List Int):Prop:=EsT w 3 a n c 1 (zs.map fun z=>[.int .i64 z])
structure IpxT (w:World)(ka:Option Addr)(kn kc:Nat)(va:Option Addr)(vn vc:Nat)(ca:Option Addr)(cn cc:Nat)(p:PrT):Prop where
 k:BtyT w ka kn kc p.key
 v:BtyT w va vn vc p.val
 c:NmT w ca cn cc p.chain
 z:cn=0->cc=0
def IpT (w:World)(e:List Value)(p:PrT):Prop:=∃ ka kn kc va vn vc ca cn cc,e=[.slice ka kn kc,.slice va vn vc,.slice ca cn cc]/\IpxT w ka kn kc va vn vc ca cn cc p
theorem IbT.kept {w w':World}{e:List Value}{s:List Int}(h:IbT w e s)(hg:FrT w w'):IbT w' e s:=by
 obtain ⟨ao,n,c,h1,h2⟩:=h;exact ⟨ao,n,c,h1,h2.kept hg⟩
theorem IpxT.kept {w w':World}{ka:Option Addr}{kn kc:Nat}{va:Option Addr}{vn vc:Nat}{ca:Option Addr}{cn cc:Nat}{p:PrT}(h:IpxT w ka kn kc va vn vc ca cn cc p)(hg:FrT w w'):IpxT w' ka kn kc va vn vc ca cn cc p :=
 ⟨h.k.kept hg,h.v.kept hg,EsT.kept h.c (by decide) hg,h.z⟩
theorem IpT.kept {w w':World}{e:List Value}{p:PrT}(h:IpT w e p)(hg:FrT w w'):IpT w' e p:=by
 obtain ⟨ka,kn,kc,va,vn,vc,ca,cn,cc,h1,h2⟩:=h;exact ⟨ka,kn,kc,va,vn,vc,ca,cn,cc,h1,h2.kept hg⟩
def PsT (w:World)(a:Option Addr)(n c:Nat)(L:List PrT):Prop:=SlT w 106 3 (IpT w) a n c L
theorem PsT.kept {w w':World}{a:Option Addr}{n c:Nat}{L:List PrT}(h:PsT w a n c L)(hg:FrT w w'):PsT w' a n c L:=SlT.mono h (by decide) hg (fun _ _ k=>k.kept hg)
def SsT (w:World)(a:Option Addr)(n c:Nat)(L:List (List Int)):Prop:=SlT w 62 1 (IbT w) a n c L
theorem SsT.kept {w w':World}{a:Option Addr}{n c:Nat}{L:List (List Int)}(h:SsT w a n c L)(hg:FrT w w'):SsT w' a n c L:=SlT.mono h (by decide) hg (fun _ _ k=>k.kept hg)
def NodeT:(n:Nat)->World->Value->NdT n->Prop
 | 0,w,v,x=>∃ b a m c,v=.iface 133 (.pointer (some ⟨b,0,none⟩))/\w.heap[b]?=some (.cells #[.int .i64 (LfT.no x),.slice a m c] 135 (0,0))/\PsT w a m c (LfT.ps x)
 | n+1,w,v,x=>∃ b a m c sa sm sc,v=.iface 161 (.pointer (some ⟨b,0,none⟩))/\w.heap[b]?=some (.cells #[.int .i64 (BnT.no (T:=NdT n) x),.slice a m c,.slice sa sm sc] 163 (0,0)) /\
  SlT w 116 1 (fun e y=>∃ u,e=[u]/\NodeT n w u y) a m c (BnT.row (T:=NdT n) x).ns/\SsT w sa sm sc (BnT.row (T:=NdT n) x).ss
def InT (n:Nat)(w:World)(e:List Value)(x:NdT n):Prop:=∃ u,e=[u]/\NodeT n w u x
def NsT (n:Nat)(w:World)(a:Option Addr)(m c:Nat)(L:List (NdT n)):Prop:=SlT w 116 1 (InT n w) a m c L
theorem NodeT.kept:∀ (n:Nat) {w w':World} {v:Value} {x:NdT n},NodeT n w v x->FrT w w'->NodeT n w' v x
 | 0,w,w',v,x,h,hg=>by
  obtain ⟨b,a,m,c,h1,h2,h3⟩:=h;exact ⟨b,a,m,c,h1,hg.keep _ _ _ _ (by decide) h2,h3.kept hg⟩
 | n+1,w,w',v,x,h,hg=>by
  obtain ⟨b,a,m,c,sa,sm,sc,h1,h2,h3,h4⟩:=h;exact ⟨b,a,m,c,sa,sm,sc,h1,hg.keep _ _ _ _ (by decide) h2,h3.mono (by decide) hg (fun _ _ ⟨u,k1,k2⟩=>⟨u,k1,NodeT.kept n k2 hg⟩),h4.kept hg⟩
theorem InT.kept {n:Nat}{w w':World}{e:List Value}{x:NdT n}(h:InT n w e x)(hg:FrT w w'):InT n w' e x:=by
 obtain ⟨u,h1,h2⟩:=h;exact ⟨u,h1,NodeT.kept n h2 hg⟩
theorem NsT.kept {n:Nat}{w w':World}{a:Option Addr}{m c:Nat}{L:List (NdT n)}(h:NsT n w a m c L)(hg:FrT w w'):NsT n w' a m c L:=SlT.mono h (by decide) hg (fun _ _ k=>k.kept hg)
structure RowT (n:Nat)(w:World)(a:Option Addr)(m c:Nat)(sa:Option Addr)(sm sc:Nat)(r:RwT (NdT n)):Prop where
 ns:NsT n w a m c r.ns
 ss:SsT w sa sm sc r.ss
theorem RowT.kept {n:Nat}{w w':World}{a:Option Addr}{m c:Nat}{sa:Option Addr}{sm sc:Nat}{r:RwT (NdT n)}(h:RowT n w a m c sa sm sc r)(hg:FrT w w'):RowT n w' a m c sa sm sc r:=⟨h.ns.kept hg,h.ss.kept hg⟩
theorem SsT.lz {w:World}{a:Option Addr}{n c:Nat}{L:List (List Int)}(h:SsT w a n c L):Lz w a L:=by
 obtain ⟨es,h1,h2⟩:=h.ex;refine ⟨fun i hi=>?_⟩;have hx:L[i]?=some (L.getD i []):=by rw [List.getElem?_eq_getElem hi];simp [List.getD,List.getElem?_eq_getElem hi]
 obtain ⟨e,e1,ao,m,d,rfl,k1⟩:=h2.get hx;obtain ⟨b,off,rfl,_,e2⟩:=h1.cell i _ e1;have:=e2 0 _ rfl;rw [Nat.mul_one,Nat.add_zero] at this;exact ⟨b,off,ao,m,d,rfl,this,k1.b,k1.l1,k1.l2⟩
theorem SsT.str {w:World}{a:Option Addr}{n c:Nat}{L:List (List Int)}(h:SsT w a n c L){i:Nat}{x:List Int}(hx:L[i]?=some x):∃ b off ao m d,a=some ⟨b,off,none⟩/\w.cell? ⟨b,off+i,none⟩=some (.slice ao m d)/\BtyT w ao m d x:=by
 obtain ⟨es,h1,h2⟩:=h.ex;obtain ⟨e,e1,ao,m,d,rfl,k1⟩:=h2.get hx;obtain ⟨b,off,rfl,_,e2⟩:=h1.cell i _ e1;have:=e2 0 _ rfl;rw [Nat.mul_one,Nat.add_zero] at this;exact ⟨b,off,ao,m,d,rfl,this,k1⟩
theorem NsT.node {n:Nat}{w:World}{a:Option Addr}{m c:Nat}{L:List (NdT n)}(h:NsT n w a m c L){i:Nat}{x:NdT n}(hx:L[i]?=some x):∃ b off u,a=some ⟨b,off,none⟩/\w.cell? ⟨b,off+i,none⟩=some u/\NodeT n w u x:=by
 obtain ⟨es,h1,h2⟩:=h.ex;obtain ⟨e,e1,u,rfl,k⟩:=h2.get hx;obtain ⟨b,off,rfl,_,e2⟩:=h1.cell i _ e1;have:=e2 0 _ rfl;rw [Nat.mul_one,Nat.add_zero] at this;exact ⟨b,off,u,rfl,this,k⟩
theorem PsT.pair {w:World}{a:Option Addr}{m c:Nat}{L:List PrT}(h:PsT w a m c L){i:Nat}{p:PrT}(hx:L[i]?=some p):∃ b off ka kn kc va vn vc ca cn cc,a=some ⟨b,off,none⟩/\w.cell? ⟨b,off+i*3,none⟩=some (.slice ka kn kc)/\w.cell? ⟨b,off+i*3+1,none⟩=some (.slice va vn vc)/\w.cell? ⟨b,off+i*3+2,none⟩=some (.slice ca cn cc)/\IpxT w ka kn kc va vn vc ca cn cc p:=by
 obtain ⟨es,h1,h2⟩:=h.ex;obtain ⟨e,e1,ka,kn,kc,va,vn,vc,ca,cn,cc,rfl,k⟩:=h2.get hx;obtain ⟨b,off,rfl,_,e2⟩:=h1.cell i _ e1;exact ⟨b,off,ka,kn,kc,va,vn,vc,ca,cn,cc,rfl,e2 0 _ rfl,e2 1 _ rfl,e2 2 _ rfl,k⟩
theorem NodeT.one {n:Nat}{w:World}{u:Value}{x:NdT n}(h:NodeT n w u x):∃ T b,u=.iface T (.pointer (some ⟨b,0,none⟩)):=by
 cases n with
 | zero =>
  obtain ⟨b,a,m,c,h1,_⟩:=h;exact ⟨_,b,h1⟩
 | succ n =>
  obtain ⟨b,a,m,c,sa,sm,sc,h1,_⟩:=h;exact ⟨_,b,h1⟩
theorem info_tpair:(Tryz.prog.info? 106).map (fun i=>(i.zero,i.size,i.bytes))=some (some (.agg #[.slice none 0 0,.slice none 0 0,.slice none 0 0]),3,72):=by kernel_rfl
theorem info_tnode:(Tryz.prog.info? 116).map (fun i=>(i.zero,i.size,i.bytes))=some (some .nilIface,1,16):=by kernel_rfl
structure ElsT (w:World)(q:Option Addr)(e:TypeId)(k:Nat)(Ls:List (List (List Value))):Prop where
 row:∀ j,j<Ls.length->∃ B o a n c,q=some ⟨B,o,none⟩/\w.cell? ⟨B,o+j,none⟩=some (.slice a n c)/\EsT w e a n c k (Ls.getD j [])
theorem ElsT.lit3 (w:World)(t y:TypeId)(hy:ScT y=false)(k:Nat)(a b d:Option Addr)(n c m e r f:Nat)(A B D:List (List Value))(h1:EsT w y a n c k A)(h2:EsT w y b m e k B)(h3:EsT w y d r f k D) :
  ElsT (w.alloc (.cells #[.slice a n c,.slice b m e,.slice d r f] t)) (some ⟨w.heap.size,0,none⟩) y k [A,B,D]:=by
 have hrow:=heap_alloc_new w (.cells #[.slice a n c,.slice b m e,.slice d r f] t);have hg:=World.grownBy_alloc w (.cells #[.slice a n c,.slice b m e,.slice d r f] t) none;refine ⟨fun j hj=>?_⟩
 match j,hj with
 | 0,_=>exact ⟨_,0,a,n,c,rfl,by rw [cell_of_row _ w.heap.size _ _ _ (0,0) hrow];rfl,h1.kept hy (FrT.of hg)⟩
 | 1,_=>exact ⟨_,0,b,m,e,rfl,by rw [cell_of_row _ w.heap.size _ _ _ (0,0) hrow];rfl,h2.kept hy (FrT.of hg)⟩
 | 2,_=>exact ⟨_,0,d,r,f,rfl,by rw [cell_of_row _ w.heap.size _ _ _ (0,0) hrow];rfl,h3.kept hy (FrT.of hg)⟩
 | k+3,h =>
  have h2:k+3<3:=h;omega
structure EwfT (k:Nat)(es:List (List Value)):Prop where
 sz:∀ e∈es,e.length=k
 one:∀ e∈es,∀ v∈e,v.oneCell'=true
theorem EwfT.nil (k:Nat):EwfT k []:=⟨fun e h=>by simp at h,fun e h=>by simp at h⟩
theorem EwfT.app {k:Nat}{A B:List (List Value)}(h:EwfT k A)(g:EwfT k B):EwfT k (A++B):=by
 refine ⟨fun e he=>?_,fun e he=>?_⟩
 ·rcases List.mem_append.1 he with he | he
  ·exact h.sz e he
  ·exact g.sz e he
 ·rcases List.mem_append.1 he with he | he
  ·exact h.one e he
  ·exact g.one e he
theorem EsT.wf {w:World}{t:TypeId}{a:Option Addr}{n c k:Nat}{es:List (List Value)}(h:EsT w t a n c k es):EwfT k es:=⟨h.sz,h.one⟩
theorem wpList_append_tp {w0 w:World}{ops:Array Oper}{rest:List Oper}{o:Oper}{a:Act}{Q:Exit->Act->World->Prop}(hgd:o.guard=none)(s x:Operand)
  (ho:o.op=.call { callee:=.builtin .append,args:=#[s,x],argTypes:=#[107,107] })
  (base:Nat) (v:Value) (n:Nat) (A:List (List Value)) (hs:a.eval s=v) (hown:w.ownsRow base 106 3 v n A.flatten)
  (ao:Option Addr) (m c:Nat) (B:List (List Value)) (hx:a.eval x=.slice ao m c) (hb:EsT w0 106 ao m c 3 B) (hg:w0.grownBy w none) (h63:n+m<=100000) (hbase:base<=w.heap.size)
  (h:∀ v' w',w'.ownsRow base 106 3 v' (n+m) (A++B).flatten->w.grownBy w' v.ownBlock->wpList Tryz.prog ops Q rest (a.put o.dst v') w'):wpList Tryz.prog ops Q (o::rest) a w:=by
 obtain ⟨i0,hi,hz0,hz1,hz2⟩:=info_parts info_tpair;cases ao with
 | none =>
  have hc:=hb.nil rfl;have hm0:m=0:=by have:=hb.cap;omega
  have hB:B=[]:=List.length_eq_zero_iff.1 (by rw [hb.len,hm0]);subst hB;subst hm0;subst hc;refine wpList_append_own_none hgd s x 107 ho base 106 i0 3 Tryz.underlying107 hi v n _ hs hown hx ?_;exact h v w (by rw [List.append_nil];exact hown) (World.grownBy.refl _ _)
 | some ad =>
  obtain ⟨k1,k2,k3⟩:=(hb.kept (by decide) (FrT.of hg)).cells;refine wpList_append_own w hgd s x 107 ho base 106 i0 (.agg #[.slice none 0 0,.slice none 0 0,.slice none 0 0]) 3 72 Tryz.underlying107 hi hz0 hz1 hz2 rfl (by decide) v n _ hs hown ad m c B.flatten hx k3 k1 k2 (by unfold maxLen;omega) (by omega) hbase ?_;intro v' w' h1 h2 _;exact h v' w' (by rw [List.flatten_append];exact h1) h2
theorem grow_tp (n:Nat)(w:World)(hn:n<=100000) :
  Calls Tryz.prog 131 #[.slice none 0 0,.int .i64 n] w fun en w'=>∃ v,en=.returned v/\w'.ownsRow w.heap.size 106 3 v 0 []/\w.grownBy w' none:=by
 by_cases h0:n=0
 ·subst h0
  go_enter Tryz.func131,Tryz.ntmps131;go_wp2;go_ret;exact ⟨_,rfl,⟨rfl,.inl ⟨rfl,rfl⟩⟩,World.grownBy.refl _ _⟩
 ·obtain ⟨i0,hi,hz0,hz1,hz2⟩:=info_parts info_tpair
  have hpos:0<n:=by omega
  have hr:∀ ty,(Builtin.append_ #[107,3] ty #[.slice none 0 0,.int .i64 n]).run Tryz.prog w=_:=fun ty =>
   Go.Lib.run_append_nil_zeros w 107 3 ty 106 i0 _ .i64 .i64 Tryz.underlying107 Tryz.underlying3 hi hz0 n hpos (by omega) (by omega) (by rw [hz2];omega)
  have hG:=grownCap_ge w n 0 106;have hM:=grownCap_le_maxLen w n 0 106 (by unfold maxLen;omega);generalize grownCap w n 0 106=G at hr hG hM;have hM2:(G:Int)<=9223372036854775807:=by unfold maxLen at hM;omega
  have hsz:(Builtin.zeroCells (Value.cells (.agg #[.slice none 0 0,.slice none 0 0,.slice none 0 0])) n++Builtin.zeroCells (Value.cells (.agg #[.slice none 0 0,.slice none 0 0,.slice none 0 0])) (G - n)).size=G*3:=by
   rw [Array.size_append,zeros_len,zeros_len]
   show n*3+(G - n)*3=G*3
   omega
  generalize (Builtin.zeroCells (Value.cells (.agg #[.slice none 0 0,.slice none 0 0,.slice none 0 0])) n++Builtin.zeroCells (Value.cells (.agg #[.slice none 0 0,.slice none 0 0,.slice none 0 0])) (G - n))=Z at hr hsz
  have HO:Hid ((w.drew.alloc (.cells Z 106)).ownsRow w.heap.size 106 3 (.slice (some ⟨w.heap.size,0,none⟩) 0 G) 0 []) :=
   ⟨rfl,.inr ⟨w.heap.size,G,Z,rfl,Nat.le_refl _,heap_alloc_new w.drew _,by omega,hM,hsz,by simp⟩⟩
  have HG:Hid (w.grownBy (w.drew.alloc (.cells Z 106)) none):=gZq ((Qt.refl w).drew.grown none) (World.grownBy_alloc _ _ none);clear hM hsz;go_enter Tryz.func131,Tryz.ntmps131
  go_wp2_with (at_builtin;refine Go.Lib.wpList_append_run _ rfl _ _ _ _ rfl _ _ rfl rfl _ _ (hr _) ?_)
  all_goals (go_ret;exact ⟨_,rfl,HO.out,HG.out⟩)
theorem concat_tp (q:Option Addr)(m cp:Nat)(Ls:List (List (List Value)))(w:World)(hl:ElsT w q 106 3 Ls)(hm:Ls.length=m)(hm2:m<=1000)(ht:Ls.flatten.length<=100000) :
  Calls Tryz.prog 105 #[.slice q m cp] w fun en w'=>(∃ a c,en=.returned (.slice a Ls.flatten.length c)/\EsT w' 106 a Ls.flatten.length c 3 Ls.flatten)/\w.grownBy w' none:=by
 have HL:=hZq hl;have HT:=hZq (fun j=>Nat.le_trans (tot_mono Ls j) ht);have HS:=hZq (fun (j:Nat) (h:j<m)=>tot_snoc Ls (j:=j) (by omega));have HF:=hZq (fun (j:Nat) (h:j<m)=>flat_snoc Ls (j:=j) (by omega))
 have HE:Hid (tot Ls m=Ls.flatten.length/\(Ls.take m).flatten=Ls.flatten):=by
  unfold tot;rw [<- hm,List.take_length];exact ⟨rfl,rfl⟩
 clear hl;go_enter Tryz.func105,Tryz.ntmps105;go_wp2;go_loopw [3,5,11] (fun sn _ si wr=>∃ i:Nat,i<=m/\si=.int .i64 i/\sn=.int .i64 ((tot Ls i:Nat):Int)/\w=wr) (fun _ _ si _=>m - (intOf si).toNat)
 case atStart=>exact ⟨0,Nat.zero_le _,rfl,rfl,rfl⟩
 case round =>
  obtain ⟨i,hi,rfl,rfl,rfl⟩:=hrel;have b1:=HT.out i
  by_cases hlt:i<m
  ·obtain ⟨B,o,a,n,c,rfl,h2,h3⟩:=HL.out.row i (by omega)
   have hs:=HS.out i hlt;have b2:=HT.out (i+1);rw [h3.len] at hs;clear h3;generalize tot Ls i=t at *;have hs2:=hZq hs;have b3:t+n<=100000:=by rw [<- hs];exact b2
   clear hs b2;go_wp2;go_roundw
   case rel=>exact ⟨i+1,by omega,by go_num,by rw [hs2.out];go_num,trivial⟩
   case measure=>simp [intOf];omega
  ·have hin:i=m:=by omega
   subst hin;obtain ⟨N,hN⟩:∃ N,tot Ls i=N:=⟨_,rfl⟩;have HN:=hZq hN;rw [hN] at b1 ⊢;clear hN
   go_wp2_with fail
   refine (grow_tp N w b1).mono ?_;rintro en w1 ⟨v,rfl,ho1,hg1⟩;have HO1:=hZq ho1;have HG1:=hZq hg1;clear ho1 hg1;go_wp2;go_loopw [6,8,27] (fun sv _ si wx=>∃ (j:Nat),j<=i/\si=.int .i64 j/\EwfT 3 (Ls.take j).flatten/\wx.ownsRow w.heap.size 106 3 sv (tot Ls j) (Ls.take j).flatten.flatten/\w.grownBy wx none) (fun _ _ si _=>i - (intOf si).toNat)
   case atStart=>exact ⟨0,Nat.zero_le _,rfl,EwfT.nil _,HO1.out,HG1.out⟩
   case round =>
    obtain ⟨j,hj,rfl,hiw,hown,hg⟩:=hrel;have HI:=hZq hiw;have HO:=hZq hown;have HG:=hZq hg;have hsz:=hg.size;clear hiw hown hg HO1 HG1
    by_cases hjt:j<i
    ·obtain ⟨B,o,a,n,c,rfl,h2,h3⟩:=HL.out.row j (by omega)
     have c1:=HG.out.cell h2 (by simp);have hs:=HS.out j hjt;have b2:=HT.out (j+1);rw [h3.len] at hs;have b3:tot Ls j+n<=100000:=by rw [<- hs];exact b2
     have HS2:=hZq hs;have HF2:=hZq (HF.out j hjt);have H3:=hZq h3;clear h2 h3 hs b2;generalize Ls.getD j []=X at *
     go_wp2_with (at_builtin;refine wpList_append_tp (w0:=w) rfl _ _ rfl w.heap.size u6 (tot Ls j) (Ls.take j).flatten rfl HO.out a n c X rfl H3.out HG.out b3 hsz ?_)
     intro v2 w2 ho2 hg2;have HO2:=hZq ho2;have HI2:=hZq (HI.out.app H3.out.wf);have HG2:=hZq (grown_own9 HG.out HO.out (Nat.le_refl _) hg2);rw [<- HS2.out] at HO2;rw [<- HF2.out] at HI2;rw [<- List.flatten_append,<- HF2.out] at HO2;clear ho2 hg2 HO HI HG c1;go_wp2;go_roundw
     case rel=>exact ⟨j+1,by omega,by go_num,HI2.out,HO2.out,HG2.out⟩
     case measure=>simp [intOf];omega
    ·have hji:j=i:=by omega
     subst hji;obtain ⟨a2,cap2,e1,e2⟩:=EsT.of_owns HO.out (by decide) HI.out.sz HI.out.one;have HM:=hZq e2;subst e1;clear e2 HO HI HL;go_wp2;go_ret;rw [HE.out.2] at HM;have hE:=HE.out.1;rw [hE] at HM;exact ⟨⟨a2,cap2,by rw [<- hE];rfl,HM.out⟩,HG.out⟩
theorem size_trow:(Tryz.prog.info? 89).map (fun i=>i.size)=some 2:=by kernel_rfl
theorem results_row {fn:Func}{p:Tmp}(h:fn.results=#[.cell p 89])(tmps:Array Value)(w:World)(g:Nat)(x y:Value)(hp:tmps.getD p undef=.pointer (some ⟨g,0,none⟩))(hr:w.heap[g]?=some (.cells #[x,y] 89 (0,0))) :
  (results fn tmps).run Tryz.prog w=.ok (.agg #[x,y]) w :=
 results_cell_row h tmps w g 89 _ (0,0) _ hp hr Tryz.underlying89 rfl (by rw [size_trow];rfl)
theorem heap_old {w:World}{k:Nat}{o x:Obj}(h:w.heap[k]?=some x):(w.alloc o).heap[k]?=some x:=by
 rw [Below.heap_alloc w o k (Array.getElem?_eq_some_iff.1 h).1];exact h
theorem heap_kept {w w':World}{k:Nat}{x:Obj}(h:w.heap[k]?=some x)(hg:w.grownBy w' none):w'.heap[k]?=some x:=by
 rw [hg.block k (Array.getElem?_eq_some_iff.1 h).1 (by simp)];exact h
theorem cell_heap {w:World}{k i:Nat}{cs:Array Value}{t:TypeId}{v:Value}(h:w.heap[k]?=some (.cells cs t (0,0)))(hv:cs[i]?=some v):w.cell? ⟨k,i,none⟩=some v:=by
 rw [cell_of_row _ k i _ _ (0,0) h];exact hv
theorem alone_any (T b:Nat)(w:World) :
  Calls Tryz.prog 58 #[.iface T (.pointer (some ⟨b,0,none⟩))] w fun en w'=>en=.returned (.agg #[.slice (some ⟨w.heap.size+1,0,none⟩) 1 1,.slice none 0 0])/\w'.heap[w.heap.size+1]?=some (.cells #[.iface T (.pointer (some ⟨b,0,none⟩))] 116 (0,0))/\w.grownBy w' none:=by
 go_enter Tryz.func58,Tryz.ntmps58;go_wp2;refine bodyPost_ret (results_row rfl _ _ w.heap.size (.slice (some ⟨w.heap.size+1,0,none⟩) 1 1) (.slice none 0 0) rfl (heap_old (heap_alloc_new w _))) rfl ?_;refine ⟨rfl,?_,gZq (World.grownBy_alloc w _ none) (World.grownBy_alloc _ _ none)⟩;have:=heap_alloc_new (w.alloc (.cells #[.slice (some ⟨w.heap.size+1,0,none⟩) 1 1,.slice none 0 0] 89)) (.cells #[.iface T (.pointer (some ⟨b,0,none⟩))] 116);simpa using this
theorem alone_row {n:Nat}{T b:Nat}{w w0:World}{x:NdT n}(hx:NodeT n w0 (.iface T (.pointer (some ⟨b,0,none⟩))) x)(hg0:w0.grownBy w none) :
  Calls Tryz.prog 58 #[.iface T (.pointer (some ⟨b,0,none⟩))] w fun en w'=>(∃ a m c sa sm sc,en=.returned (.agg #[.slice a m c,.slice sa sm sc])/\RowT n w' a m c sa sm sc ⟨[x],[]⟩)/\w.grownBy w' none:=by
 refine (alone_any T b w).mono ?_;rintro en w' ⟨rfl,h1,h2⟩;refine ⟨⟨_,_,_,_,_,_,rfl,⟨⟨[[.iface T (.pointer (some ⟨b,0,none⟩))]],?_,ElyT.one ⟨_,rfl,NodeT.kept n hx (FrT.of (gZq hg0 h2))⟩⟩,SlT.nil _ _ _ _⟩⟩,h2⟩;refine ⟨rfl,Nat.le_refl _,by omega,(fun e=>by cases e),(fun x hx=>by cases hx;exact ⟨_,_,rfl⟩),by simp,by simp [Value.oneCell'],fun i e he=>⟨_,0,rfl,⟨_,_,h1⟩,fun f v hv=>?_⟩⟩
 match i,he with
 | 0,he =>
  simp only [List.getElem?_cons_zero,Option.some.injEq] at he;subst he
  match f,hv with
  | 0,hv =>
   simp only [List.getElem?_cons_zero,Option.some.injEq] at hv;subst hv;exact cell_heap h1 (by simp)
  | f+1,hv=>simp at hv
 | i+1,he=>simp at he
theorem both_row {n:Nat}{T b U d:Nat}{so:Option Addr}{sn sc:Nat}{w w0:World}{x y:NdT n}{s:List Int}(hx:NodeT n w0 (.iface T (.pointer (some ⟨b,0,none⟩))) x)(hy:NodeT n w0 (.iface U (.pointer (some ⟨d,0,none⟩))) y)(hs:IbT w0 [.slice so sn sc] s)(hg0:w0.grownBy w none) :
  Calls Tryz.prog 130 #[.iface T (.pointer (some ⟨b,0,none⟩)),.slice so sn sc,.iface U (.pointer (some ⟨d,0,none⟩))] w fun en w'=>(∃ a m c sa sm sc,en=.returned (.agg #[.slice a m c,.slice sa sm sc])/\RowT n w' a m c sa sm sc ⟨[x,y],[s]⟩)/\w.grownBy w' none:=by
 have HX:=hZq hx;have HY:=hZq hy;have HS:=hZq hs;have HG:=hZq hg0;clear hx hy hs hg0;go_enter Tryz.func130,Tryz.ntmps130;go_wp2;refine bodyPost_ret (results_row rfl _ _ w.heap.size (.slice (some ⟨w.heap.size+1,0,none⟩) 2 2) (.slice (some ⟨w.heap.size+1+1,0,none⟩) 1 1) rfl (heap_old (heap_old (heap_alloc_new w _)))) rfl ?_;have g1:=World.grownBy_alloc w (.cells #[.slice (some ⟨w.heap.size+1,0,none⟩) 2 2,.slice (some ⟨w.heap.size+1+1,0,none⟩) 1 1] 89) none;generalize hw1:w.alloc (.cells #[.slice (some ⟨w.heap.size+1,0,none⟩) 2 2,.slice (some ⟨w.heap.size+1+1,0,none⟩) 1 1] 89)=w1 at *;have z1:w1.heap.size=w.heap.size+1:=by rw [<- hw1];simp
 have g2:=World.grownBy_alloc w1 (.cells #[.iface T (.pointer (some ⟨b,0,none⟩)),.iface U (.pointer (some ⟨d,0,none⟩))] 116) none;have k2:=EsT.lit w1 116 1 [[.iface T (.pointer (some ⟨b,0,none⟩))],[.iface U (.pointer (some ⟨d,0,none⟩))]] #[.iface T (.pointer (some ⟨b,0,none⟩)),.iface U (.pointer (some ⟨d,0,none⟩))] rfl (by simp) (by simp [Value.oneCell']) (by simp);generalize hw2:w1.alloc (.cells #[.iface T (.pointer (some ⟨b,0,none⟩)),.iface U (.pointer (some ⟨d,0,none⟩))] 116)=w2 at *;have z2:w2.heap.size=w.heap.size+1+1:=by rw [<- hw2];simp [z1]
 have g3:=World.grownBy_alloc w2 (.cells #[.slice so sn sc] 62) none;have k3:=EsT.lit w2 62 1 [[.slice so sn sc]] #[.slice so sn sc] rfl (by simp) (by simp [Value.oneCell']) (by simp);generalize w2.alloc (.cells #[.slice so sn sc] 62)=w3 at *;have g:=gZq HG.out (gZq (gZq g1 g2) g3);rw [z1] at k2;rw [z2] at k3;refine ⟨⟨_,_,_,_,_,_,rfl,⟨_,k2.kept (by decide) (FrT.of g3),?_⟩,⟨_,k3,ElyT.one (HS.out.kept (FrT.of g))⟩⟩,gZq (gZq g1 g2) g3⟩;exact ElyT.app (es:=[_]) (L:=[x]) (ElyT.one ⟨_,rfl,NodeT.kept n HX.out (FrT.of g)⟩) (ElyT.one ⟨_,rfl,NodeT.kept n HY.out (FrT.of g)⟩)
def setL (w:World)(g o:Nat):List Value->World
 | []=>w
 | v::vs=>setL (w.setCell ⟨g,o,none⟩ v) g (o+1) vs
def setA (cur:Array Value)(o:Nat):List Value->Array Value
 | []=>cur
 | v::vs=>setA (cur.setIfInBounds o v) (o+1) vs
theorem setA_size:∀ (vs:List Value) (cur:Array Value) (o:Nat),(setA cur o vs).size=cur.size
 | [],_,_=>rfl
 | v::vs,cur,o=>by rw [setA,setA_size vs];simp
theorem setA_other:∀ (vs:List Value) (cur:Array Value) (o j:Nat),(j<o∨o+vs.length<=j)->(setA cur o vs)[j]?=cur[j]?
 | [],_,_,_,_=>rfl
 | v::vs,cur,o,j,h=>by
  simp only [List.length_cons] at h;rw [setA,setA_other vs _ _ _ (by omega),Array.getElem?_setIfInBounds,if_neg (by omega)]
theorem setA_at:∀ (vs:List Value) (cur:Array Value) (o f:Nat) (v:Value),vs[f]?=some v->o+vs.length<=cur.size->(setA cur o vs)[o+f]?=some v
 | [],_,_,_,_,h,_=>by simp at h
 | u::vs,cur,o,0,v,h,hs=>by
  simp only [List.getElem?_cons_zero,Option.some.injEq,List.length_cons] at h hs;subst h;rw [setA,setA_other vs _ _ _ (by omega),Array.getElem?_setIfInBounds,if_pos (by omega),if_pos (by omega)]
 | u::vs,cur,o,f+1,v,h,hs=>by
  simp only [List.getElem?_cons_succ,List.length_cons] at h hs;rw [setA,show o+(f+1)=o+1+f by omega];exact setA_at vs _ (o+1) f v h (by simp;omega)
theorem setL_heap {g:Nat}{t:TypeId}:∀ (vs:List Value) (w:World) (o:Nat) (cur:Array Value),w.heap[g]?=some (.cells cur t (0,0))->(setL w g o vs).heap[g]?=some (.cells (setA cur o vs) t (0,0))
 | [],_,_,_,h=>h
 | v::vs,w,o,_,h=>setL_heap vs _ (o+1) _ (heap_setCell_same w g o _ _ v h)
theorem setL_grown {g:Nat}:∀ (vs:List Value) (w:World) (o:Nat),w.grownBy (setL w g o vs) (some g)
 | [],_,_=>World.grownBy.refl _ _
 | v::vs,w,o=>gZq (grown_cell w g o v) (setL_grown vs _ (o+1))
structure FlT (w:World)(g n k:Nat)(t:TypeId)(es:List (List Value)):Prop where
 row:∃ cur:Array Value,w.heap[g]?=some (.cells cur t (0,0))/\cur.size=n*k/\∀ i e,es[i]?=some e->∀ f v,e[f]?=some v->cur[i*k+f]?=some v
 wf:EwfT k es
theorem FlT.start {w:World}{base g n k:Nat}{t:TypeId}{xs:List Value}(h:w.ownsRow base t k (.slice (some ⟨g,0,none⟩) n n) n xs):FlT w g n k t []:=by
 rcases h with ⟨hl,⟨h0,_⟩ | ⟨g',cap,cur,hv,_,hg,_,_,hs,ht⟩⟩
 ·cases h0
 ·injection hv with e1 e2 e3
  injection e1 with e1
  injection e1 with e4
  subst e4 e3;exact ⟨⟨cur,hg,hs,fun j p hj=>by simp at hj⟩,EwfT.nil _⟩
theorem FlT.keptN {w w':World}{g n k:Nat}{t:TypeId}{es:List (List Value)}(h:FlT w g n k t es)(hg:w.grownBy w' none):FlT w' g n k t es:=by
 obtain ⟨cur,h1,h2⟩:=h.row;exact ⟨⟨cur,heap_kept h1 hg,h2⟩,h.wf⟩
theorem FlT.lt {w:World}{g n k:Nat}{t:TypeId}{es:List (List Value)}(h:FlT w g n k t es):g<w.heap.size:=by
 obtain ⟨cur,h1,_⟩:=h.row;exact (Array.getElem?_eq_some_iff.1 h1).1
theorem FlT.cell {w:World}{g n k:Nat}{t:TypeId}{es:List (List Value)}(h:FlT w g n k t es){j:Nat}(hj:j<n*k):(∃ v,w.cell? ⟨g,j,none⟩=some v)/\w.frozen? ⟨g,j,none⟩=false:=by
 obtain ⟨cur,h1,h2,_⟩:=h.row;exact ⟨⟨cur[j]'(by omega),by rw [cell_of_row w g j _ _ _ h1];exact Array.getElem?_eq_getElem (by omega)⟩,frozen_of_row w g j _ _ h1⟩
theorem FlT.next {w:World}{g n k:Nat}{t:TypeId}{es:List (List Value)}(h:FlT w g n k t es)(hn:es.length<n)(vs:List Value)(hv:vs.length=k)(h1:∀ v∈vs,v.oneCell'=true):FlT (setL w g (es.length*k) vs) g n k t (es++[vs]):=by
 obtain ⟨cur,r1,r2,r3⟩:=h.row
 have hroom:es.length*k+k<=n*k:=by
  have:=Nat.mul_le_mul_right k (show es.length+1<=n by omega);rw [Nat.add_mul] at this;omega
 refine ⟨⟨_,setL_heap vs w _ _ r1,by rw [setA_size];exact r2,fun i e he f v hf=>?_⟩,h.wf.app ⟨by simpa using hv,by simpa using h1⟩⟩
 by_cases hi:i<es.length
 ·rw [List.getElem?_append_left hi] at he
  have hlt:f<k:=by
   have:=h.wf.sz e (List.mem_of_getElem? he);have:=(List.getElem?_eq_some_iff.1 hf).1;omega
  have h2:i*k+k<=es.length*k:=by
   have:=Nat.mul_le_mul_right k (show i+1<=es.length by omega);rw [Nat.add_mul] at this;omega
  rw [setA_other _ _ _ _ (by omega)];exact r3 i e he f v hf
 ·have hj:=(List.getElem?_eq_some_iff.1 he).1
  rw [List.length_append,List.length_singleton] at hj;obtain rfl:i=es.length:=by omega
  simp at he;subst he;exact setA_at vs cur _ f v hf (by omega)
theorem FlT.es {w:World}{g n k:Nat}{t:TypeId}{es:List (List Value)}(h:FlT w g n k t es)(hn:es.length=n)(h2:n<=9223372036854775807):EsT w t (some ⟨g,0,none⟩) n n k es:=by
 obtain ⟨cur,r1,r2,r3⟩:=h.row;refine ⟨hn,Nat.le_refl _,h2,(fun e=>by cases e),(fun x hx=>by cases hx;exact ⟨_,_,rfl⟩),h.wf.sz,h.wf.one,fun i e he=>⟨g,0,rfl,⟨_,_,r1⟩,fun f v hv=>?_⟩⟩;rw [cell_of_row w g _ _ _ _ r1,Nat.zero_add];exact r3 i e he f v hv
def IiT (w:World)(e:List Value)(x:It):Prop:=∃ ao n c,e=[.slice ao n c,.slice none 0 0,.int .i64 x.size,.int .i64 0]/\BtyT w ao n c x.key/\x.val=[]/\x.first=0
theorem IiT.kept {w w':World}{e:List Value}{x:It}(h:IiT w e x)(hg:FrT w w'):IiT w' e x:=by
 obtain ⟨ao,n,c,h1,h2,h3⟩:=h;exact ⟨ao,n,c,h1,h2.kept hg,h3⟩
theorem SlT.il {w:World}{t:TypeId}{a:Option Addr}{n c:Nat}{L:List It}(h:SlT w t 4 (IiT w) a n c L):Il w a L:=by
 obtain ⟨es,h1,h2⟩:=h.ex;refine ⟨fun i hi=>?_⟩;have hx:L[i]?=some (L.getD i it0):=by rw [List.getElem?_eq_getElem hi];simp [List.getD,List.getElem?_eq_getElem hi]
 obtain ⟨e,e1,ao,m,d,rfl,k1,k4,k5⟩:=h2.get hx;obtain ⟨b,off,rfl,_,e2⟩:=h1.cell i _ e1;rw [k4,k5];exact ⟨b,off,ao,m,d,none,0,0,rfl,e2 0 _ rfl,e2 1 _ rfl,e2 2 _ rfl,e2 3 _ rfl,k1.b,k1.l1,k1.l2,Byt.empty _,Nat.le_refl _,by omega⟩
theorem info_item10:(Tryz.prog.info? 122).map (fun i=>(i.zero,i.size,i.bytes))=some (some (.agg #[.slice none 0 0,.slice none 0 0,.int .i64 0,.int .i64 0]),4,64):=by kernel_rfl
theorem itemsOf_any (a:Option Addr)(n c:Nat)(L:List PrT)(w:World)(hl:PsT w a n c L)(hn:n<=2932031007402) :
  Calls Tryz.prog 110 #[.slice a n c] w fun en w'=>(∃ g,en=.returned (.slice (some ⟨g,0,none⟩) n n)/\SlT w' 122 4 (IiT w') (some ⟨g,0,none⟩) n n (its L))/\w.grownBy w' none:=by
 obtain ⟨i0,hi,hz0,hz1,hz2⟩:=info_parts info_item10;have hlen:=hl.len;have HL:=hZq hl;clear hl;go_enter Tryz.func110,Tryz.ntmps110
 go_wp2_with (at_make;refine wpList_make_full _ rfl _ _ 120 rfl w.heap.size 122 i0 (.agg #[.slice none 0 0,.slice none 0 0,.int .i64 0,.int .i64 0]) 4 Tryz.underlying120 hi hz0 hz1 _ _ _ _ n rfl rfl rfl rfl ?b2 ?b3 (Nat.le_refl _) ?_)
 case b2=>rw [hz2];omega
 case b3=>unfold maxLen;omega
 intro w0 hown0 hgrow0;have F0:=hZq (FlT.start hown0);have G0:=hZq hgrow0;clear hown0 hgrow0
 go_wp2_with fail
 go_loopw [11] (fun si wr=>∃ (k:Nat) (es:List (List Value)),k<=n/\si=.int .i64 (k:Nat)/\es.length=k/\FlT wr w.heap.size n 4 122 es/\ElyT (IiT w) es (its (L.take k))/\w.grownBy wr none) (fun si _=>n - (intOf si).toNat)
 case atStart=>exact ⟨0,[],Nat.zero_le _,rfl,rfl,F0.out,ElyT.nil,G0.out⟩
 case round =>
  obtain ⟨k,es,hk,rfl,hes,hfl,hel,hg⟩:=hrel;have HF:=hZq hfl;have HE:=hZq hel;have HG:=hZq hg
  by_cases hlt:k<n
  ·have hx:L[k]?=some L[k]:=List.getElem?_eq_getElem (by omega)
   revert hx
   generalize L[k]'(by omega)=p;intro hx;obtain ⟨b,off,ka,kn,kc,va,vn,vc,ca,cn,cc,rfl,c0,c1,c2,hp⟩:=HL.out.pair hx;have d0:=hg.cell c0 (by simp);have d1:=hg.cell c1 (by simp);have d2:=hg.cell c2 (by simp);obtain ⟨⟨v0,f0⟩,z0⟩:=hfl.cell (j:=k*4) (by omega);obtain ⟨⟨v1,f1⟩,z1⟩:=hfl.cell (j:=k*4+1) (by omega);obtain ⟨⟨v2,f2⟩,z2⟩:=hfl.cell (j:=k*4+2) (by omega);obtain ⟨⟨v3,f3⟩,z3⟩:=hfl.cell (j:=k*4+3) (by omega);have hgl:=hfl.lt;have HP:=hZq hp;have HX:=hZq hx;clear hfl hel hg c0 c1 c2 hp hx;go_wp2;subst hes;have hnx:=(HF.out.next hlt [.slice ka kn kc,.slice none 0 0,.int .i64 vn,.int .i64 0] rfl (by simp [Value.oneCell'])).keptN (World.grownBy_alloc _ (.cells #[.slice ka kn kc,.slice va vn vc,.slice ca cn cc] 106) none);have hgx:=grown_new HG.out (gZq (setL_grown (g:=w.heap.size) [.slice ka kn kc,.slice none 0 0,.int .i64 vn,.int .i64 0] wr (es.length*4)) (World.grownBy_alloc _ (.cells #[.slice ka kn kc,.slice va vn vc,.slice ca cn cc] 106) _)) (Nat.le_refl _);have hvl:=HP.out.v.b.len;have hls:(es++[[Value.slice ka kn kc,Value.slice none 0 0,Value.int .i64 vn,Value.int .i64 0]]).length=es.length+1:=by simp
   refine ⟨⟨es.length+1,_,by omega,by go_num,hls,hnx,?_,hgx⟩,by simp [intOf];omega⟩
   have e2:its (L.take (es.length+1))=its (L.take es.length)++[itm p]:=by
    rw [List.take_add_one,HX.out,its_app]
    rfl
   rw [e2];refine HE.out.app (ElyT.one ⟨ka,kn,kc,?_,HP.out.k,rfl,rfl⟩);rw [<- hvl]
   rfl
  ·have hin:k=n:=by omega
   subst hin;clear hfl hel hg;go_wp2;go_ret;have e2:its (L.take k)=its L:=by rw [<- hlen,List.take_length]
   have he:=HE.out;rw [e2] at he;exact ⟨⟨_,rfl,es,HF.out.es hes (by omega),he.mono (fun _ _ h=>h.kept (FrT.of HG.out))⟩,HG.out⟩
theorem own_blk {w w':World}{base n k:Nat}{t:TypeId}{v:Value}{xs:List Value}(h:w.ownsRow base t k v n xs)(hb:∀ i,v.ownBlock=some i->TgT w i t->w'.heap[i]?=w.heap[i]?):w'.ownsRow base t k v n xs:=by
 refine ⟨h.1,?_⟩;rcases h.2 with h1 | ⟨g,cap,cur,e,h2,h3,h4⟩
 ·exact Or.inl h1
 ·exact Or.inr ⟨g,cap,cur,e,h2,(hb g (by rw [e];rfl) ⟨_,_,h3⟩).trans h3,h4⟩
theorem own_keptF {w w':World}{base n k:Nat}{t:TypeId}{v:Value}{xs:List Value}(h:w.ownsRow base t k v n xs)(ht:ScT t=false)(hg:FrT w w'):w'.ownsRow base t k v n xs :=
 own_blk h fun i _ ⟨cur,z,e⟩=>by rw [hg.keep i t cur z ht e,e]
theorem own_lt10 {w:World}{base n k:Nat}{t:TypeId}{v:Value}{xs:List Value}(h:w.ownsRow base t k v n xs){g:Nat}(e:v.ownBlock=some g):base<=g/\g<w.heap.size/\TgT w g t:=by
 rcases h.2 with ⟨h1,_⟩ | ⟨g',cap,cur,e',h2,h3,h4⟩
 ·rw [h1] at e;cases e
 ·rw [e'] at e
  have:g'=g:=Option.some.inj e;subst this;exact ⟨h2,(Array.getElem?_eq_some_iff.1 h3).1,_,_,h3⟩
theorem FrT.row {w w':World}{row:Option Nat}(hg:w.grownBy w' row)(hr:∀ g,row=some g->∃ t,TgT w g t/\ScT t=true):FrT w w':=⟨fun b t cur z ht e=>by
 rw [hg.block b (Array.getElem?_eq_some_iff.1 e).1 (fun e2=>by
  obtain ⟨t',⟨cur',z',e'⟩,h'⟩:=hr b e2.symm;rw [e] at e';simp only [Option.some.injEq,Obj.cells.injEq] at e';rw [<- e'.2.1,ht] at h';cases h')]
 exact e⟩
def OwB (w:World)(lo hi:Nat)(v:Value)(s:List Int):Prop:=w.ownsRow lo 5 1 v s.length (s.map (Value.int .u8))/\∀ g,v.ownBlock=some g->g<hi
theorem OwB.same {w w':World}{lo hi:Nat}{v:Value}{s:List Int}(h:OwB w lo hi v s)(hb:∀ g,lo<=g->g<hi->TgT w g 5->w'.heap[g]?=w.heap[g]?):OwB w' lo hi v s :=
 ⟨own_blk h.1 fun i e ht=>hb i (own_lt10 h.1 e).1 (h.2 i e) ht,h.2⟩
def PvT (w:World)(lo hi:Nat)(e:List Value)(p:PrT):Prop:=∃ kv vv m,e=[kv,vv]/\lo<=m/\m<=hi/\OwB w lo m kv p.key/\OwB w m hi vv p.val
theorem PvT.same {w w':World}{lo hi:Nat}{e:List Value}{p:PrT}(h:PvT w lo hi e p)(hb:∀ g,lo<=g->g<hi->TgT w g 5->w'.heap[g]?=w.heap[g]?):PvT w' lo hi e p:=by
 obtain ⟨kv,vv,m,h1,h2,h3,h4,h5⟩:=h;exact ⟨kv,vv,m,h1,h2,h3,h4.same fun g a b=>hb g a (by omega),h5.same fun g a b=>hb g (by omega) b⟩
def PvL (w:World):List (List Value)->List PrT->Nat->Nat->Prop
 | [],[],lo,hi=>lo<=hi
 | e::es,p::ps,lo,hi=>∃ m,lo<=m/\m<=hi/\PvT w lo m e p/\PvL w es ps m hi
 | _,_,_,_=>False
theorem PvL.le {w:World}:∀ {es:List (List Value)} {ps:List PrT} {lo hi:Nat},PvL w es ps lo hi->lo<=hi
 | [],[],_,_,h=>h
 | _::es,_::ps,_,_,h=>by
  obtain ⟨m,h1,h2,_⟩:=h;omega
 | [],_::_,_,_,h=>h.elim
 | _::_,[],_,_,h=>h.elim
theorem PvL.snoc {w:World}:∀ {es:List (List Value)} {ps:List PrT} {lo m hi:Nat} {e:List Value} {p:PrT},PvL w es ps lo m->m<=hi->PvT w m hi e p->PvL w (es++[e]) (ps++[p]) lo hi
 | [],[],lo,m,hi,e,p,h,hm,k=>by
  have h':lo<=m:=h;obtain ⟨kv,vv,q,k1,k2,k3,k4,k5⟩:=k;exact ⟨hi,by omega,Nat.le_refl _,⟨kv,vv,q,k1,by omega,k3,⟨⟨k4.1.1,k4.1.2.imp id fun ⟨g,cap,cur,a,b,c⟩=>⟨g,cap,cur,a,by omega,c⟩⟩,k4.2⟩,k5⟩,Nat.le_refl hi⟩
 | _::es,_::ps,_,_,_,_,_,h,hm,k=>by
  obtain ⟨q,h1,h2,h3,h4⟩:=h;exact ⟨q,h1,by omega,h3,h4.snoc hm k⟩
 | [],_::_,_,_,_,_,_,h,_,_=>h.elim
 | _::_,[],_,_,_,_,_,h,_,_=>h.elim
theorem PvL.same {w w':World}:∀ {es:List (List Value)} {ps:List PrT} {lo hi:Nat},PvL w es ps lo hi->(∀ g,lo<=g->g<hi->TgT w g 5->w'.heap[g]?=w.heap[g]?)->PvL w' es ps lo hi
 | [],[],_,_,h,_=>h
 | _::es,_::ps,lo,hi,h,hb=>by
  obtain ⟨m,h1,h2,h3,h4⟩:=h;exact ⟨m,h1,h2,h3.same fun g a b=>hb g a (by omega),h4.same fun g a b=>hb g (by omega) b⟩
 | [],_::_,_,_,h,_=>h.elim
 | _::_,[],_,_,h,_=>h.elim
theorem tg_same {w w':World}{g:Nat}{t:TypeId}(ht:ScT t=false)(hg:FrT w w')(h:TgT w g t):w'.heap[g]?=w.heap[g]?:=by
 obtain ⟨cur,z,e⟩:=h;rw [hg.keep g t cur z ht e,e]
theorem PvL.kept {w w':World}{es:List (List Value)}{ps:List PrT}{lo hi:Nat}(h:PvL w es ps lo hi)(hg:FrT w w'):PvL w' es ps lo hi:=h.same fun g _ _ ht=>tg_same (by decide) hg ht
def IcT (w:World)(lo:Nat)(e:List Value)(c:List Int):Prop:=∃ a n k,e=[.slice a n k]/\NmT w a n k c/\∀ ad,a=some ad->0<n->lo<=ad.block
theorem IcT.kept {w w':World}{lo:Nat}{e:List Value}{c:List Int}(h:IcT w lo e c)(hg:FrT w w'):IcT w' lo e c:=by
 obtain ⟨a,n,k,h1,h2,h3⟩:=h;exact ⟨a,n,k,h1,EsT.kept h2 (by decide) hg,h3⟩
theorem IcT.low {w:World}{lo lo':Nat}{e:List Value}{c:List Int}(h:IcT w lo e c)(hl:lo'<=lo):IcT w lo' e c:=by
 obtain ⟨a,n,k,h1,h2,h3⟩:=h;exact ⟨a,n,k,h1,h2,fun ad e h0=>Nat.le_trans hl (h3 ad e h0)⟩
def NoM (w:World)(Lb lo hi:Nat)(e:List Value)(x:NoT):Prop:=∃ vp es ca cn cc sa sn sc ka kn kc,e=[.int .i64 x.no,.int .i64 (x.lv:Int),vp,.slice ca cn cc,.slice sa sn sc,.slice ka kn kc]/\w.ownsRow lo 64 2 vp x.ps.length es.flatten/\(∀ g,vp.ownBlock=some g->g<hi) /\
 PvL w es x.ps lo hi/\SlT w 30 1 (IcT w Lb) ca cn cc (x.ps.map PrT.chain)/\SsT w sa sn sc x.ss/\NmT w ka kn kc (x.ks.map fun (k:Nat)=>(k:Int))/\∀ ad,ka=some ad->0<kn->Lb<=ad.block
theorem NoM.kept {w w':World}{Lb lo hi:Nat}{e:List Value}{x:NoT}(h:NoM w Lb lo hi e x)(hg:FrT w w'):NoM w' Lb lo hi e x:=by
 obtain ⟨vp,es,ca,cn,cc,sa,sn,sc,ka,kn,kc,h1,h2,h3,h4,h5,h6,h7,h8⟩:=h;exact ⟨vp,es,ca,cn,cc,sa,sn,sc,ka,kn,kc,h1,own_keptF h2 (by decide) hg,h3,h4.kept hg,h5.mono (by decide) hg (fun _ _ k=>k.kept hg),h6.kept hg,EsT.kept h7 (by decide) hg,h8⟩
theorem NoM.le {w:World}{Lb lo hi:Nat}{e:List Value}{x:NoT}(h:NoM w Lb lo hi e x):lo<=hi:=by
 obtain ⟨vp,es,ca,cn,cc,sa,sn,sc,ka,kn,kc,h1,h2,h3,h4,_⟩:=h;exact h4.le
def ToM (w:World)(Lb:Nat):List (List Value)->List NoT->Nat->Nat->Prop
 | [],[],lo,hi=>lo<=hi
 | e::es,x::xs,lo,hi=>∃ m,lo<=m/\m<=hi/\NoM w Lb lo m e x/\ToM w Lb es xs m hi
 | _,_,_,_=>False
theorem ToM.le {w:World}{Lb:Nat}:∀ {es:List (List Value)} {xs:List NoT} {lo hi:Nat},ToM w Lb es xs lo hi->lo<=hi
 | [],[],_,_,h=>h
 | _::es,_::xs,_,_,h=>by
  obtain ⟨m,h1,h2,_⟩:=h;omega
 | [],_::_,_,_,h=>h.elim
 | _::_,[],_,_,h=>h.elim
theorem ToM.len {w:World}{Lb:Nat}:∀ {es:List (List Value)} {xs:List NoT} {lo hi:Nat},ToM w Lb es xs lo hi->es.length=xs.length
 | [],[],_,_,_=>rfl
 | _::es,_::xs,_,_,h=>by
  obtain ⟨m,_,_,_,h4⟩:=h;rw [List.length_cons,List.length_cons,h4.len]
 | [],_::_,_,_,h=>h.elim
 | _::_,[],_,_,h=>h.elim
theorem ToM.kept {w w':World}{Lb:Nat}(hg:FrT w w'):∀ {es:List (List Value)} {xs:List NoT} {lo hi:Nat},ToM w Lb es xs lo hi->ToM w' Lb es xs lo hi
 | [],[],_,_,h=>h
 | _::es,_::xs,lo,hi,h=>by
  obtain ⟨m,h1,h2,h3,h4⟩:=h;exact ⟨m,h1,h2,h3.kept hg,h4.kept hg⟩
 | [],_::_,_,_,h=>h.elim
 | _::_,[],_,_,h=>h.elim
theorem own_low {w:World}{base base' n k:Nat}{t:TypeId}{v:Value}{xs:List Value}(h:w.ownsRow base t k v n xs)(hb:base'<=base):w.ownsRow base' t k v n xs :=
 ⟨h.1,h.2.imp id fun ⟨g,cap,cur,a,b,c⟩=>⟨g,cap,cur,a,by omega,c⟩⟩
theorem PvT.low {w:World}{lo lo' hi:Nat}{e:List Value}{p:PrT}(h:PvT w lo hi e p)(hl:lo'<=lo):PvT w lo' hi e p:=by
 obtain ⟨kv,vv,m,h1,h2,h3,h4,h5⟩:=h;exact ⟨kv,vv,m,h1,by omega,h3,⟨own_low h4.1 hl,h4.2⟩,h5⟩
theorem PvL.low {w:World}:∀ {es:List (List Value)} {ps:List PrT} {lo lo' hi:Nat},PvL w es ps lo hi->lo'<=lo->PvL w es ps lo' hi
 | [],[],_,_,_,h,k=>Nat.le_trans k h
 | _::es,_::ps,lo,lo',hi,h,k=>by
  obtain ⟨m,h1,h2,h3,h4⟩:=h;exact ⟨m,by omega,h2,h3.low k,h4⟩
 | [],_::_,_,_,_,h,_=>h.elim
 | _::_,[],_,_,_,h,_=>h.elim
theorem NoM.low {w:World}{Lb lo lo' hi:Nat}{e:List Value}{x:NoT}(h:NoM w Lb lo hi e x)(hl:lo'<=lo):NoM w Lb lo' hi e x:=by
 obtain ⟨vp,es,ca,cn,cc,sa,sn,sc,ka,kn,kc,h1,h2,h3,h4,h5⟩:=h;exact ⟨vp,es,ca,cn,cc,sa,sn,sc,ka,kn,kc,h1,own_low h2 hl,h3,h4.low hl,h5⟩
theorem NoM.lowB {w:World}{Lb Lb' lo hi:Nat}{e:List Value}{x:NoT}(h:NoM w Lb lo hi e x)(hl:Lb'<=Lb):NoM w Lb' lo hi e x:=by
 obtain ⟨vp,es,ca,cn,cc,sa,sn,sc,ka,kn,kc,h1,h2,h3,h4,⟨cs,h5,h5'⟩,h6,h7,h8⟩:=h;exact ⟨vp,es,ca,cn,cc,sa,sn,sc,ka,kn,kc,h1,h2,h3,h4,⟨cs,h5,h5'.mono (fun _ _ k=>k.low hl)⟩,h6,h7,fun ad e h0=>Nat.le_trans hl (h8 ad e h0)⟩
theorem ToM.low {w:World}{Lb:Nat}:∀ {es:List (List Value)} {xs:List NoT} {lo lo' hi:Nat},ToM w Lb es xs lo hi->lo'<=lo->ToM w Lb es xs lo' hi
 | [],[],_,_,_,h,k=>Nat.le_trans k h
 | _::es,_::xs,lo,lo',hi,h,k=>by
  obtain ⟨m,h1,h2,h3,h4⟩:=h;exact ⟨m,by omega,h2,h3.low k,h4⟩
 | [],_::_,_,_,_,h,_=>h.elim
 | _::_,[],_,_,_,h,_=>h.elim
theorem ToM.lowB {w:World}{Lb Lb':Nat}(hl:Lb'<=Lb):∀ {es:List (List Value)} {xs:List NoT} {lo hi:Nat},ToM w Lb es xs lo hi->ToM w Lb' es xs lo hi
 | [],[],_,_,h=>h
 | _::es,_::xs,lo,hi,h=>by
  obtain ⟨m,h1,h2,h3,h4⟩:=h;exact ⟨m,h1,h2,h3.lowB hl,ToM.lowB hl h4⟩
 | [],_::_,_,_,h=>h.elim
 | _::_,[],_,_,h=>h.elim
theorem ToM.app {w:World}{Lb:Nat}:∀ {es es':List (List Value)} {xs xs':List NoT} {lo m hi:Nat},ToM w Lb es xs lo m->ToM w Lb es' xs' m hi->ToM w Lb (es++es') (xs++xs') lo hi
 | [],_,[],_,_,_,_,h,k=>k.low h
 | _::es,_,_::xs,_,lo,m,hi,h,k=>by
  obtain ⟨q,h1,h2,h3,h4⟩:=h;have:=k.le;exact ⟨q,h1,by omega,h3,h4.app k⟩
 | [],_,_::_,_,_,_,_,h,_=>h.elim
 | _::_,_,[],_,_,_,_,h,_=>h.elim
theorem ToM.one {w:World}{Lb lo m hi:Nat}{e:List Value}{x:NoT}(h:NoM w Lb lo m e x)(hm:m<=hi):ToM w Lb [e] [x] lo hi:=⟨m,h.le,hm,h,hm⟩
theorem clone_own (ao:Option Addr)(n c:Nat)(zs:List Int)(w:World)(hb:Byt w ao n c zs)(hn:n<=140737488355328) :
  Calls Tryz.prog 56 #[.slice ao n c] w fun en w'=>∃ a' c',en=.returned (.slice a' n c')/\w'.ownsRow w.heap.size 5 1 (.slice a' n c') n (zs.map (Value.int .u8))/\w.grownBy w' none:=by
 obtain ⟨i0,hi,hz0,hz1,hz2⟩:=info_parts info_u8;have q22:∀ (w:World) (a:Option Addr) (n c n' c':Nat),(binOp .eql 62 (.slice a n c) (.slice none n' c')).run Tryz.prog w=.ok (.bool a.isNone) w:=fun w a n c n' c'=>Lib.run_eql_slice_nil w _ _ a n c n' c' Tryz.underlying62
 match ao,hb with
 | none,hb =>
  have hn0:n=0:=(hb.nil rfl).1;subst hn0;have hl:=hb.len;have hz:zs=[]:=List.eq_nil_of_length_eq_zero hl;subst hz;clear hb hl;go_enter Tryz.func56,Tryz.ntmps56;go_wp2;go_ret;exact ⟨none,0,rfl,⟨rfl,.inl ⟨rfl,rfl⟩⟩,World.grownBy.refl _ _⟩
 | some ad,hb =>
  have HB:=hZq hb;clear hb;go_enter Tryz.func56,Tryz.ntmps56
  go_wp2_with (at_builtin;refine wpList_append_own _ rfl _ _ 62 rfl w.heap.size 5 i0 (.int .u8 0) 1 1 Tryz.underlying62 hi hz0 hz1 hz2 rfl (by decide) _ _ _ rfl (World.ownsRow_made w #[] 0 (Nat.le_refl _) (Nat.zero_le _) rfl) ad n c (zs.map (Value.int .u8)) rfl ?qc1 ?qc2 ?qc3 ?qc4 ?qc5 ?qc6 ?_)
  case qc1=>rw [List.length_map,HB.out.len,Nat.mul_one]
  case qc2=>exact (HB.out.keptN (World.grownBy_alloc w _ none)).cells ad rfl
  case qc3=>exact ints_oneCell _ _
  case qc4=>unfold maxLen;omega
  case qc5=>omega
  case qc6=>simp
  intro v' w1 hown hgrow hnil;have hown':w1.ownsRow w.heap.size 5 1 v' n (zs.map (Value.int .u8)):=by simpa using hown
  have HG:Hid (w.grownBy w1 none):=grown_new (World.grownBy_alloc w (.cells #[] 5) none) (by simpa [Value.ownBlock] using hgrow) (Nat.le_refl _);clear hown hgrow hnil
  obtain ⟨a',c',hv⟩:∃ a' c',v'=.slice a' n c':=by
   rcases hown'.2 with ⟨h1,h0⟩ | ⟨g,cap,cur,hv,_⟩
   ·exact ⟨none,0,by rw [h1,h0]⟩
   ·exact ⟨_,cap,hv⟩
  subst hv;have HO:=hZq hown';clear hown';go_wp2;go_ret;exact ⟨a',c',rfl,HO.out,HG.out⟩
theorem flat1 (zs:List Int):(zs.map fun z=>[Value.int .i64 z]).flatten=zs.map (Value.int .i64):=by
 induction zs with
 | nil=>rfl
 | cons z zs ih=>rw [List.map_cons,List.flatten_cons,ih];rfl
theorem info_i10:(Tryz.prog.info? 3).map (fun i=>(i.zero,i.size,i.bytes))=some (some (.int .i64 0),1,8):=by kernel_rfl
theorem NmT.of_owns {w:World}{base n:Nat}{v:Value}{zs:List Int}(h:w.ownsRow base 3 1 v n (zs.map (Value.int .i64))):∃ a c,v=.slice a n c/\NmT w a n c zs:=by
 rw [<- flat1] at h
 exact EsT.of_owns h (by decide) (fun e he=>by obtain ⟨z,_,rfl⟩:=List.mem_map.1 he;rfl) (fun e he v hv=>by
  obtain ⟨z,_,rfl⟩:=List.mem_map.1 he;rw [List.mem_singleton.1 hv];rfl)
theorem iclone_any (ao:Option Addr)(n c:Nat)(zs:List Int)(w:World)(hb:NmT w ao n c zs)(hn:n<=17592186044416) :
  Calls Tryz.prog 132 #[.slice ao n c] w fun en w'=>∃ a' c',en=.returned (.slice a' n c')/\NmT w' a' n c' zs/\w.grownBy w' none/\∀ ad,a'=some ad->w.heap.size<=ad.block:=by
 obtain ⟨i0,hi,hz0,hz1,hz2⟩:=info_parts info_i10;have q22:∀ (w:World) (a:Option Addr) (n c n' c':Nat),(binOp .eql 30 (.slice a n c) (.slice none n' c')).run Tryz.prog w=.ok (.bool a.isNone) w:=fun w a n c n' c'=>Lib.run_eql_slice_nil w _ _ a n c n' c' Tryz.underlying30
 have hln:zs.length=n:=by have:=hb.len;simpa using this
 match ao,hb with
 | none,hb =>
  have hc0:c=0:=hb.nil rfl;have hn0:n=0:=by have:=hb.cap;omega
  subst hn0;have hz:zs=[]:=List.eq_nil_of_length_eq_zero hln;subst hz;clear hb;go_enter Tryz.func132,Tryz.ntmps132;go_wp2;go_ret;exact ⟨none,0,rfl,EsT.nul _ _ _,World.grownBy.refl _ _,(fun ad h=>by cases h)⟩
 | some ad,hb =>
  have HB:=hZq (EsT.kept hb (by decide) (FrT.of (World.grownBy_alloc w (.cells #[] 3) none))).cells;clear hb;rw [flat1] at HB;go_enter Tryz.func132,Tryz.ntmps132
  go_wp2_with (at_builtin;refine wpList_append_own _ rfl _ _ 30 rfl w.heap.size 3 i0 (.int .i64 0) 1 8 Tryz.underlying30 hi hz0 hz1 hz2 rfl (by decide) _ _ _ rfl (World.ownsRow_made w #[] 0 (Nat.le_refl _) (Nat.zero_le _) rfl) ad n c (zs.map (Value.int .i64)) rfl ?qc1 ?qc2 ?qc3 ?qc4 ?qc5 ?qc6 ?_)
  case qc1=>rw [List.length_map,hln,Nat.mul_one]
  case qc2=>exact HB.out.1
  case qc3=>exact ints_oneCell _ _
  case qc4=>unfold maxLen;omega
  case qc5=>omega
  case qc6=>simp
  intro v' w1 hown hgrow hnil;have hown':w1.ownsRow w.heap.size 3 1 v' n (zs.map (Value.int .i64)):=by simpa using hown
  have HG:Hid (w.grownBy w1 none):=grown_new (World.grownBy_alloc w (.cells #[] 3) none) (by simpa [Value.ownBlock] using hgrow) (Nat.le_refl _);clear hown hgrow hnil;obtain ⟨a',c',hv,hnm⟩:=NmT.of_owns hown';subst hv;have HO:=hZq hnm
  have HL:Hid (∀ ad,a'=some ad->w.heap.size<=ad.block):=fun ad e=>by
   subst e;exact (own_lt10 hown' rfl).1
  clear hown' hnm;go_wp2;go_ret;exact ⟨a',c',rfl,HO.out,HG.out,HL.out⟩
theorem cell_lt {w:World}{b i:Nat}{v:Value}(h:w.cell? ⟨b,i,none⟩=some v):b<w.heap.size:=by
 unfold World.cell? at h
 by_cases e:b<w.heap.size
 ·exact e
 ·rw [Array.getElem?_eq_none (by show w.heap.size<=b;omega)] at h
  simp at h
theorem sfind_any (A B:Nat)(n:Nat)(q:Nat->Int)(w:World)(hn:n<=100000)
  (hp:∀ (k:Nat) (w1:World),k<n->w.grownBy w1 none->Calls Tryz.prog 125 #[.int .i64 k,.pointer (some ⟨A,0,none⟩),.pointer (some ⟨B,0,none⟩)] w1 fun en w'=>en=.returned (.int .i64 (q k))/\w1.grownBy w' none) :
  Calls Tryz.prog 124 #[.int .i64 n,.func (.func 125) #[] #[.pointer (some ⟨A,0,none⟩),.pointer (some ⟨B,0,none⟩)]] w fun en w'=>(∃ k:Nat,en=.returned (.tuple #[.int .i64 k,.bool (decide (k<n) && decide (q k=0))])/\k<=n/\(0<k->0<q (k - 1))/\(k<n->q k<=0))/\w.grownBy w' none:=by
 have HP:=hZq hp;clear hp;go_enter Tryz.func124,Tryz.ntmps124;go_wp2;go_loopw [4,6,7] (fun si sj _ wr=>∃ i j:Nat,i<=j/\j<=n/\si=.int .i64 i/\sj=.int .i64 j/\(0<i->0<q (i - 1))/\(j<n->q j<=0)/\w.grownBy wr none) (fun si sj _ _=>(intOf sj).toNat - (intOf si).toNat)
 case atStart=>exact ⟨0,n,Nat.zero_le _,Nat.le_refl _,rfl,rfl,fun h=>by omega,fun h=>by omega,World.grownBy.refl _ _⟩
 case round =>
  obtain ⟨i,j,hij,hj,rfl,rfl,hlo,hhi,hg⟩:=hrel;have HLO:=hZq hlo;have HHI:=hZq hhi;have HG:=hZq hg;clear hlo hhi hg
  by_cases hlt:i<j
  ·obtain ⟨m,hm⟩:∃ m:Nat,(i+j) / 2=m:=⟨_,rfl⟩
   have h1:i<=m/\m<j:=by omega
   have e1:((i:Int)+(j:Int)) / 2=(m:Int):=by omega
   have e2:((i:Int)+(j:Int)) % 18446744073709551616=(i:Int)+(j:Int):=by omega
   go_wp2_with fail
   refine (HP.out m _ (by omega) HG.out).mono ?_;rintro en w2 ⟨rfl,hg2⟩;have HG2:=hZq (gZq HG.out hg2);clear hg2 HG
   by_cases hb:0<q m
   ·have HB:Hid (0<m+1->0<q (m+1 - 1)):=fun _=>hb
    go_wp2;go_roundw
    case rel=>exact ⟨m+1,j,by omega,hj,by go_num,rfl,HB.out,HHI.out,HG2.out⟩
    case measure=>simp [intOf];omega
   ·have HB:Hid (m<n->q m<=0):=fun _=>by omega
    go_wp2;go_roundw
    case rel=>exact ⟨i,m,by omega,by omega,rfl,rfl,HLO.out,HB.out,HG2.out⟩
    case measure=>simp [intOf];omega
  ·have hin:i=j:=by omega
   subst hin
   by_cases hin2:i<n
   ·go_wp2_with fail
    refine (HP.out i _ hin2 HG.out).mono ?_;rintro en w2 ⟨rfl,hg2⟩;have HG2:=hZq (gZq HG.out hg2);clear hg2 HG;go_wp2
    go_ret2
    refine ⟨⟨i,?_,hj,HLO.out,HHI.out⟩,HG2.out⟩;rw [decide_eq_true hin2,Bool.true_and]
    rfl
   ·go_wp2
    go_ret2
    refine ⟨⟨i,?_,hj,HLO.out,HHI.out⟩,HG.out⟩;simp [hin2]
theorem find_place {L:List PrT}{key:List Int}(h:Srt L){k:Nat}(hk:k<=L.length)(h1:0<k->0<cmpZ key (keyT L (k - 1)))(h2:k<L.length->cmpZ key (keyT L k)<=0):findT L key=k:=by
 induction L generalizing k with
 | nil=>simp [findT] at *;omega
 | cons x L ih =>
  have hs:=List.pairwise_cons.1 h;rw [find_cons];cases k with
  | zero =>
   have:=h2 (by simp);have e:keyT (x::L) 0=x.key:=rfl;rw [e] at this;have:=cmp_anti x.key key;rw [if_neg (by omega)]
  | succ k =>
   have hx:cmpZ x.key key<0:=by
    have h3:=h1 (by omega);rw [show k+1 - 1=k by omega] at h3;cases k with
    | zero =>
     have e:keyT (x::L) 0=x.key:=rfl;rw [e] at h3;have:=cmp_anti x.key key;omega
    | succ k =>
     have e:keyT (x::L) (k+1)=keyT L k:=rfl;rw [e] at h3;simp only [List.length_cons] at hk;obtain ⟨p,_,p2,p3⟩:=keyT_mem (ps:=L) (i:=k) (by omega);have h4:=hs.1 p p3;rw [p2] at h4;have:=cmp_anti (keyT L k) key;exact lt_trans10 h4 (by omega)
   rw [if_pos hx]
   congr 1
   refine ih hs.2 (by simpa using hk) (fun h0=>?_) (fun h0=>?_)
   ·have:=h1 (by omega)
    rw [show k+1 - 1=k - 1+1 by omega] at this;exact this
   ·exact h2 (by simpa using h0)
theorem has_place {L:List PrT}{key:List Int}:hasT L key=(decide (findT L key<L.length) && decide (cmpZ key (keyT L (findT L key))=0)):=by
 unfold hasT
 have ha:∀ x:List Int,decide (cmpZ x key=0)=decide (cmpZ key x=0):=fun x=>by
  have:=cmp_anti x key
  congr 1
  apply propext;omega
 cases e:L[findT L key]? with
 | none =>
  have:=List.getElem?_eq_none_iff.1 e;rw [decide_eq_false (by omega),Bool.false_and]
 | some p =>
  have:=(List.getElem?_eq_some_iff.1 e).1;rw [decide_eq_true this,Bool.true_and];have e2:keyT L (findT L key)=p.key:=by simp [keyT,List.getD,e]
  rw [e2];exact ha p.key
theorem find1_any (b A B:Nat)(a:Option Addr)(m c:Nat)(ka:Option Addr)(kn kc:Nat)(L:List PrT)(key:List Int)(k:Nat)(w:World)(hA:w.cell? ⟨A,0,none⟩=some (.slice ka kn kc))(hB:w.cell? ⟨B,0,none⟩=some (.pointer (some ⟨b,0,none⟩)))(hc:w.cell? ⟨b,1,none⟩=some (.slice a m c))(hl:PsT w a m c L)(hk:k<m)
  (hb:Byt w ka kn kc key) (bt:Bt key) (bl:∀ p∈L,Bt p.key) :
  Calls Tryz.prog 125 #[.int .i64 k,.pointer (some ⟨A,0,none⟩),.pointer (some ⟨B,0,none⟩)] w fun en w'=>en=.returned (.int .i64 (cmpZ key (keyT L k)))/\w.grownBy w' none:=by
 have hlen:=hl.len;obtain ⟨p,p1,p2,p3⟩:=keyT_mem (ps:=L) (i:=k) (by omega);obtain ⟨g,off,qa,qn,qc,va,vn,vc,ca,cn,cc,rfl,c0,c1,c2,hp⟩:=hl.pair p1;have HC:=hZq (fun (W:World) (h:W.heap=w.heap)=>compare_any ka qa kn qn kc qc key p.key W (hb.heap h) (hp.k.b.heap h) bt (bl p p3));rw [p2] at HC;have hk2:(0:Int)<=(k:Int)/\(k:Int)<(m:Int):=by omega
 clear hb hp hl c1 c2 bl;go_enter Tryz.func125,Tryz.ntmps125;go_wp2
 go_region_with (go_at_call 126;refine (HC.out w.drew rfl).mono ?_;rintro en w2 ⟨rfl,rfl⟩)
 all_goals (go_wp2;go_ret;exact ⟨rfl,(Qt.refl _).drew.grown none⟩)
theorem lfind_any (b:Nat)(a:Option Addr)(m c:Nat)(ka:Option Addr)(kn kc:Nat)(L:List PrT)(key:List Int)(w:World)(hc:w.cell? ⟨b,1,none⟩=some (.slice a m c))(hl:PsT w a m c L)(hm:m<=100000)(hs:Srt L)
  (hb:Byt w ka kn kc key) (bt:Bt key) (bl:∀ p∈L,Bt p.key) :
  Calls Tryz.prog 101 #[.pointer (some ⟨b,0,none⟩),.slice ka kn kc] w fun en w'=>en=.returned (.tuple #[.int .i64 ((findT L key:Nat):Int),.bool (hasT L key)])/\w.grownBy w' none:=by
 have hlen:=hl.len;have hmf:∀ (fn:Fn) (first cap:Array Value) (w:World),(Instr.makeFunc fn first cap).run Tryz.prog w=.ok (.func fn first cap) w:=fun _ _ _ _=>rfl
 have G1:=hZq (World.grownBy_alloc w (.cells #[.pointer (some ⟨b,0,none⟩)] 133) none);have G2:=hZq (gZq G1.out (World.grownBy_alloc (w.alloc (.cells #[.pointer (some ⟨b,0,none⟩)] 133)) (.cells #[.slice ka kn kc] 62) none))
 have HP:Hid (∀ (k:Nat) (w1:World),k<m->((w.alloc (.cells #[.pointer (some ⟨b,0,none⟩)] 133)).alloc (.cells #[.slice ka kn kc] 62)).grownBy w1 none->Calls Tryz.prog 125 #[.int .i64 k,.pointer (some ⟨w.heap.size+1,0,none⟩),.pointer (some ⟨w.heap.size,0,none⟩)] w1 fun en w'=>en=.returned (.int .i64 (cmpZ key (keyT L k)))/\w1.grownBy w' none):=by
  intro k w1 hk hg;have hg2:=gZq G2.out hg;have c1:((w.alloc (.cells #[.pointer (some ⟨b,0,none⟩)] 133)).alloc (.cells #[.slice ka kn kc] 62)).cell? ⟨w.heap.size+1,0,none⟩=some (.slice ka kn kc):=cell_heap (by have:=heap_alloc_new (w.alloc (.cells #[.pointer (some ⟨b,0,none⟩)] 133)) (.cells #[.slice ka kn kc] 62);simpa using this) rfl;have c2:((w.alloc (.cells #[.pointer (some ⟨b,0,none⟩)] 133)).alloc (.cells #[.slice ka kn kc] 62)).cell? ⟨w.heap.size,0,none⟩=some (.pointer (some ⟨b,0,none⟩)):=cell_heap (heap_old (heap_alloc_new w _)) rfl;exact find1_any b _ _ a m c ka kn kc L key k w1 (hg.cell c1 (by simp)) (hg.cell c2 (by simp)) (hg2.cell hc (by simp)) (hl.kept (FrT.of hg2)) hk (hb.keptN hg2) bt bl
 have hbl:=cell_lt hc;have HS:=hZq hs;clear hl hb hs bl;go_enter Tryz.func101,Tryz.ntmps101
 go_wp2_with (go_at_call 124;refine (sfind_any _ _ m _ _ hm HP.out).mono ?_;rintro en w2 ⟨⟨k,rfl,h1,h2,h3⟩,hg⟩)
 have hf:=find_place HS.out (by omega) h2 (by rw [hlen];exact h3);have hh:=has_place (L:=L) (key:=key);rw [hf,hlen] at hh;have HH:=hZq hh;have HF:=hZq hf;have HG:=hZq (gZq G2.out hg);clear hh hf h2 h3 hg HP;go_wp2
 go_ret2
 rw [HF.out,HH.out];exact ⟨rfl,HG.out⟩
theorem sameValue_any (ka kb va vb ca cb:Option Addr)(kn kc kn' kc' vn vc vn' vc' cn cc cn' cc':Nat)(p q:PrT)(w:World)(hp:IpxT w ka kn kc va vn vc ca cn cc p)(hq:IpxT w kb kn' kc' vb vn' vc' cb cn' cc' q)(bp:Bt p.val)(bq:Bt q.val) :
  Calls Tryz.prog 103 #[.agg #[.slice ka kn kc,.slice va vn vc,.slice ca cn cc],.agg #[.slice kb kn' kc',.slice vb vn' vc',.slice cb cn' cc']] w fun en w'=>en=.returned (.bool (decide (p.val=q.val)))/\w.grownBy w' none:=by
 have G:∀ (o o':Obj),Hid (w.grownBy ((w.alloc o).alloc o') none):=fun o o'=>gZq (World.grownBy_alloc w o none) (World.grownBy_alloc _ o' none)
 by_cases e:p.val=q.val
 ·have HE:=hZq (fun (W:World) (h:w.grownBy W none)=>equal_yes va vb vn vn' vc vc' p.val q.val W (hp.v.b.keptN h) (hq.v.b.keptN h) e)
  rw [decide_eq_true e];clear hp hq;go_enter Tryz.func103,Tryz.ntmps103
  go_wp2_with (go_at_call 127;refine (HE.out _ (G _ _).out).mono ?_;rintro en w2 ⟨rfl,rfl⟩)
  go_ret;exact ⟨rfl,(G _ _).out⟩
 ·have HE:=hZq (fun (W:World) (h:w.grownBy W none)=>equal_no va vb vn vn' vc vc' p.val q.val W (hp.v.b.keptN h) (hq.v.b.keptN h) bp bq e)
  rw [decide_eq_false e];clear hp hq;go_enter Tryz.func103,Tryz.ntmps103
  go_wp2_with (go_at_call 127;refine (HE.out _ (G _ _).out).mono ?_;rintro en w2 ⟨rfl,rfl⟩)
  go_ret;exact ⟨rfl,(G _ _).out⟩
theorem vals_len {A B:List PrT}(h:A.length≠B.length):decide (A.map PrT.val=B.map PrT.val)=false:=by
 rw [decide_eq_false];intro e;have:=congrArg List.length e;simp at this;exact h this
theorem vals_off {A B:List PrT}{i:Nat}{p q:PrT}(hp:A[i]?=some p)(hq:B[i]?=some q)(h:p.val≠q.val):decide (A.map PrT.val=B.map PrT.val)=false:=by
 rw [decide_eq_false];intro e;have:=congrArg (fun l=>l[i]?) e;simp only [List.getElem?_map,hp,hq,Option.map_some,Option.some.injEq] at this;exact h this
theorem equalFunc_any (a b:Option Addr)(n c m d:Nat)(A B:List PrT)(w:World)(ha:PsT w a n c A)(hb:PsT w b m d B)(hn:n<=100000)(hm:m<=100000)(va:∀ p∈A,Bt p.val)(vb:∀ p∈B,Bt p.val) :
  Calls Tryz.prog 102 #[.slice a n c,.slice b m d,.func (.func 103) #[] #[]] w fun en w'=>en=.returned (.bool (decide (A.map PrT.val=B.map PrT.val)))/\w.grownBy w' none:=by
 have la:=ha.len;have lb:=hb.len
 by_cases hnm:n=m
 ·subst hnm
  have HA:=hZq ha;have HB:=hZq hb;clear ha hb;go_enter Tryz.func102,Tryz.ntmps102;go_wp2;go_loopw [17] (fun si wr=>∃ (k:Nat),k<=n/\si=.int .i64 (k:Nat)/\(A.take k).map PrT.val=(B.take k).map PrT.val/\w.grownBy wr none) (fun si _=>n - (intOf si).toNat)
  case atStart=>exact ⟨0,Nat.zero_le _,rfl,rfl,World.grownBy.refl _ _⟩
  case round =>
   obtain ⟨k,hk,rfl,hv,hg⟩:=hrel;have HV:=hZq hv;have HG:=hZq hg;clear hv
   by_cases hlt:k<n
   ·have hx:A[k]?=some A[k]:=List.getElem?_eq_getElem (by omega)
    have hy:B[k]?=some B[k]:=List.getElem?_eq_getElem (by omega)
    revert hx hy
    generalize A[k]'(by omega)=p;generalize B[k]'(by omega)=q;intro hx hy;obtain ⟨b1,o1,ka,kn,kc,va',vn,vc,ca,cn,cc,rfl,c0,c1,c2,hp⟩:=HA.out.pair hx;obtain ⟨b2,o2,ka2,kn2,kc2,va2,vn2,vc2,ca2,cn2,cc2,rfl,e0,e1,e2,hq⟩:=HB.out.pair hy;have d0:=hg.cell c0 (by simp);have d1:=hg.cell c1 (by simp);have d2:=hg.cell c2 (by simp);have f0:=hg.cell e0 (by simp);have f1:=hg.cell e1 (by simp);have f2:=hg.cell e2 (by simp);have l1:=cell_lt d0;have l2:=cell_lt f0;have G:∀ (o o':Obj),Hid (w.grownBy ((wr.alloc o).alloc o') none):=fun o o'=>gZq HG.out (gZq (World.grownBy_alloc wr o none) (World.grownBy_alloc _ o' none))
    have HS:=hZq (fun (W:World) (h:w.grownBy W none)=>sameValue_any ka ka2 va' va2 ca ca2 kn kc kn2 kc2 vn vc vn2 vc2 cn cc cn2 cc2 p q W (hp.kept (FrT.of h)) (hq.kept (FrT.of h)) (va p (List.mem_of_getElem? hx)) (vb q (List.mem_of_getElem? hy)));have HX:=hZq hx;have HY:=hZq hy;clear hg c0 c1 c2 e0 e1 e2 hp hq hx hy
    by_cases e:p.val=q.val
    ·rw [decide_eq_true e] at HS
     go_wp2_with (go_at_call 103;refine (HS.out _ (G _ _).out).mono ?_;rintro en w2 ⟨rfl,hg2⟩)
     have HG2:=hZq (gZq (G _ _).out hg2);clear hg2 d0 d1 d2 f0 f1 f2;go_wp2;go_roundw
     case rel =>
      refine ⟨k+1,by omega,by go_num,?_,HG2.out⟩;rw [List.take_add_one,List.take_add_one,HX.out,HY.out,List.map_append,List.map_append,HV.out];simp [e]
     case measure=>simp [intOf];omega
    ·rw [decide_eq_false e] at HS
     go_wp2_with (go_at_call 103;refine (HS.out _ (G _ _).out).mono ?_;rintro en w2 ⟨rfl,hg2⟩)
     have HG2:=hZq (gZq (G _ _).out hg2);clear hg2 d0 d1 d2 f0 f1 f2;go_wp2;go_ret;rw [vals_off HX.out HY.out e];exact ⟨rfl,HG2.out⟩
   ·have hin:k=n:=by omega
    subst hin;clear hg;go_wp2;go_ret;have h1:=HV.out;rw [show A.take k=A by rw [<- la,List.take_length],show B.take k=B by rw [<- lb,List.take_length]] at h1;rw [decide_eq_true h1];exact ⟨rfl,HG.out⟩
 ·rw [vals_len (by omega)]
  have hne:¬ ((n:Int)=(m:Int)):=by omega
  clear ha hb;go_enter Tryz.func102,Tryz.ntmps102;go_wp2
  all_goals (go_ret;exact ⟨rfl,World.grownBy.refl _ _⟩)
end Go.Proofs.YteaahinjcfjngaaGreat
