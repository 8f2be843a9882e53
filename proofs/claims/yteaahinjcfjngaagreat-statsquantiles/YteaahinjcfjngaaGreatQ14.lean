import Derived.Test.YteaahinjcfjngaaGreatQ12
import Derived.Lib.SlBytesConst
import Derived.Below
namespace Go.Proofs.YteaahinjcfjngaaGreat
open Go.RowKit
theorem size_alloc (w:World)(o:Obj):(w.alloc o).heap.size=w.heap.size+1:=by simp
theorem Byt.on {w:World}{ao:Option Addr}{n cap:Nat}{zs:List Int}(h:Byt w ao n cap zs)(o:Obj):Byt (w.alloc o) ao n cap zs:=h.keptN (World.grownBy_alloc w o none)
theorem Lz.lit (w:World)(e:TypeId)(vs:Array Value)(L:List (List Int))(k:Nat)(hk:k=w.heap.size)(h:∀ i,i<L.length->∃ ao n c,vs[i]?=some (.slice ao n c)/\Byt w ao n c (L.getD i [])/\n<=c/\c<=9223372036854775807):Lz (w.alloc (.cells vs e)) (some ⟨k,0,none⟩) L:=by
 subst hk;refine ⟨fun i hi=>?_⟩;obtain ⟨ao,n,c,h1,h2,h3,h4⟩:=h i hi;exact ⟨_,_,ao,n,c,rfl,by rw [Nat.zero_add,cell_of_row (w.alloc (.cells vs e)) w.heap.size i _ e (0,0) (heap_alloc_new w _)];exact h1,h2.on _,h3,h4⟩
theorem Lz.lit3 (w:World)(e:TypeId)(a b c:Option Addr)(n m r x y z:Nat)(za zb zc:List Int)(k:Nat)(hk:k=w.heap.size)(ha:Byt w a n x za)(hb:Byt w b m y zb)(hc:Byt w c r z zc)(h1:n<=x)(h2:m<=y)(h3:r<=z)(k1:x<=9223372036854775807)(k2:y<=9223372036854775807)(k3:z<=9223372036854775807) :
  Lz (w.alloc (.cells #[.slice a n x,.slice b m y,.slice c r z] e)) (some ⟨k,0,none⟩) [za,zb,zc]:=by
 refine Lz.lit w e _ _ k hk fun i hi=>?_
 match i,hi with
 | 0,_=>exact ⟨_,_,_,rfl,ha,h1,k1⟩
 | 1,_=>exact ⟨_,_,_,rfl,hb,h2,k2⟩
 | 2,_=>exact ⟨_,_,_,rfl,hc,h3,k3⟩
 | i+3,h=>exact absurd h (by simp)
end Go.Proofs.YteaahinjcfjngaaGreat
