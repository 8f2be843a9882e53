import Derived.Test.YtepcgckapoljpaaGreatQ15
namespace Go.Proofs.YtepcgckapoljpaaGreat
open Go.RowKit
structure Sv (w:World)(base:Nat)(xs:List Value)(L:List (List Int)):Prop where
 len:xs.length=L.length
 el:∀ j,j<L.length->∃ g,xs[j]?=some (.slice (some ⟨g,0,none⟩) (L.getD j []).length (L.getD j []).length)/\Rw w g (L.getD j [])/\base<=g/\(L.getD j []).length<=140737488351232
theorem Sv.nil (w:World)(base:Nat):Sv w base [] []:=⟨rfl,fun j hj=>by simp at hj⟩
theorem Sv.kept {w w':World}{base:Nat}{xs:List Value}{L:List (List Int)}{row:Option Nat}(h:Sv w base xs L)(hg:w.grownBy w' row)(hne:∀ (g:Nat) (zs:List Int),base<=g->Rw w g zs->some g≠row):Sv w' base xs L:=by
 refine ⟨h.len,fun j hj=>?_⟩;obtain ⟨g,h1,h2,h3,h4⟩:=h.el j hj;exact ⟨g,h1,h2.kept hg (hne g _ h3 h2),h3,h4⟩
theorem Sv.snoc {w:World}{base:Nat}{xs:List Value}{L:List (List Int)}(h:Sv w base xs L){g n:Nat}{x:List Int}(hx:Rw w g x)(hn:x.length=n)(hb:base<=g)(hm:n<=140737488351232):Sv w base (xs++[.slice (some ⟨g,0,none⟩) n n]) (L++[x]):=by
 have hl:=h.len;refine ⟨by simp [hl],fun j hj=>?_⟩;rw [List.length_append] at hj;simp only [List.length_cons,List.length_nil] at hj
 by_cases e:j<L.length
 ·obtain ⟨g,h1,h2,h3,h4⟩:=h.el j e
  have eg:(L++[x]).getD j []=L.getD j []:=by simp [List.getD,List.getElem?_append_left e]
  rw [eg];exact ⟨g,by rw [List.getElem?_append_left (by omega)];exact h1,h2,h3,h4⟩
 ·obtain rfl:j=L.length:=by omega
  have eg:(L++[x]).getD L.length []=x:=by simp [List.getD]
  rw [eg,hn];exact ⟨g,by rw [List.getElem?_append_right (by omega),hl,Nat.sub_self];rfl,hx,hb,hm⟩
theorem Sv.lz {w:World}{base base2:Nat}{v:Value}{n:Nat}{xs:List Value}{L:List (List Int)}(h:Sv w base2 xs L)(ho:w.ownsRow base 30 1 v n xs):∃ a cap,v=.slice a n cap/\Lz w a L/\L.length=n/\n<=cap/\cap<=9223372036854775807:=by
 have hl:=h.len;have hn:L.length=n:=by have:=ho.1;omega
 rcases ho.2 with ⟨rfl,rfl⟩ | ⟨g,cap,cur,rfl,_,_,hc,hm,_⟩
 ·obtain rfl:L=[]:=List.length_eq_zero_iff.1 hn
  exact ⟨none,0,rfl,Lz.zero _ _,rfl,Nat.le_refl _,by omega⟩
 ·refine ⟨_,cap,rfl,⟨fun i hi=>?_⟩,hn,hc,by unfold maxLen at hm;omega⟩
  obtain ⟨g',h1,h2,h3,h4⟩:=h.el i hi;refine ⟨g,0,some ⟨g',0,none⟩,(L.getD i []).length,(L.getD i []).length,rfl,?_,h2.all _ _ rfl,Nat.le_refl _,by omega⟩;have:=ho.cellAt i (by omega);rw [Nat.zero_add,this];exact h1
def kc:List Kd->List Value
 | []=>[]
 | k::K=>.int .i64 k.no::.int .i64 k.keys::kc K
theorem info_bytesS:(Tryz.prog.info? 30).map (fun i=>(i.zero,i.size,i.bytes))=some (some (.slice none 0 0),1,24):=by kernel_rfl
theorem cell_one_new (w:World)(a:Value)(t:TypeId):∀ j u,[a][j]?=some u->(w.alloc (.cells #[a] t)).cell? ((⟨w.heap.size,0,none⟩:Addr).add j)=some u:=by
 intro j u hu;rw [Addr.add_lit,Nat.zero_add,cell_of_row _ w.heap.size j _ _ (0,0) (heap_alloc_new w _)];simpa using hu
end Go.Proofs.YtepcgckapoljpaaGreat
