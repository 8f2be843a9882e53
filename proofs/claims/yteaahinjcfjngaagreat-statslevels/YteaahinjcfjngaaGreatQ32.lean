import Derived.Test.YteaahinjcfjngaaGreatQ31
import Derived.Test.YteaahinjcfjngaaGreatQ19
set_option maxRecDepth 100000
set_option maxHeartbeats 2000000
namespace Go.Proofs.YteaahinjcfjngaaGreat
open Go.RowKit
theorem FrT.mapped {w w':World}{b:Nat}(h:NbT w b)(hg:w.grownBy w' (some b)):FrT w w':=⟨fun g t cur z _ e=>by
 have hne:some g≠some b:=fun e2=>by
  obtain ⟨D,⟨es,clock,hb,_⟩,_⟩:=h;simp only [Option.some.injEq] at e2;subst e2;rw [hb] at e;simp at e
 rw [hg.block g (Array.getElem?_eq_some_iff.1 e).1 hne];exact e⟩
theorem NbT.not {w:World}{b B i:Nat}{v:Value}(h:NbT w b)(hc:w.cell? ⟨B,i,none⟩=some v):some B≠some b:=fun e2=>by
 obtain ⟨D,⟨es,clock,hb,_⟩,_⟩:=h;simp only [Option.some.injEq] at e2;subst e2;unfold World.cell? at hc;simp [hb] at hc
def pgB (x:Int):Int:=if x<=512∨262144<x then 0 else (x+4085 - 1) / 4085
theorem pgB_le (x:Int):0<=pgB x/\pgB x<=65:=by
 unfold pgB
 split <;> omega
theorem pagesB_any (x:Int)(w:World):Calls Tryz.prog 61 #[.int .i64 x] w fun en w'=>en=.returned (.int .i64 (pgB x))/\w'=w:=by
 by_cases h1:x<=512
 ·have e:Hid (pgB x=0):=by show _=_;unfold pgB;rw [if_pos (.inl h1)]
  go_enter Tryz.func61,Tryz.ntmps61;go_wp2;go_ret;exact ⟨by rw [e.out];rfl,rfl⟩
 ·by_cases h2:262144<x
  ·have e:Hid (pgB x=0):=by show _=_;unfold pgB;rw [if_pos (.inr h2)]
   go_enter Tryz.func61,Tryz.ntmps61;go_wp2;go_ret;exact ⟨by rw [e.out];rfl,rfl⟩
  ·have e:Hid (pgB x=(x+4085 - 1) / 4085):=by show _=_;unfold pgB;rw [if_neg (by omega)]
   go_enter Tryz.func61,Tryz.ntmps61;go_wp2;go_ret;exact ⟨by rw [e.out];rfl,rfl⟩
theorem srt_adj:∀ (L:List PrT),(∀ j,j+1<L.length->cmpZ (keyT L j) (keyT L (j+1))<0)->Srt L
 | [],_=>List.Pairwise.nil
 | [x],_=>by simp [Srt]
 | x::y::L,h=>by
  have ih:=srt_adj (y::L) (fun j hj=>h (j+1) (by simpa using hj));have h0:cmpZ x.key y.key<0:=h 0 (by simp);refine List.pairwise_cons.2 ⟨fun z hz=>?_,ih⟩;rcases List.mem_cons.1 hz with rfl | hz
  ·exact h0
  ·exact lt_trans10 h0 (Int.le_of_lt ((List.pairwise_cons.1 ih).1 z hz))
theorem fresh_any (ka:Option Addr)(kn kc:Nat)(va:Option Addr)(vn vc:Nat)(ca:Option Addr)(cn cc:Nat)(w:World) :
  Calls Tryz.prog 134 #[.agg #[.slice ka kn kc,.slice va vn vc,.slice ca cn cc]] w fun en w'=>en=.returned (.int .i64 (if 0<cn then 0 else pgB vn))/\w.grownBy w' none:=by
 have G1:=hZq (World.grownBy_alloc w (.cells #[.slice ka kn kc,.slice va vn vc,.slice ca cn cc] 106) none)
 by_cases h:0<cn
 ·have h':(0:Int)<(cn:Int):=by omega
  go_enter Tryz.func134,Tryz.ntmps134;go_wp2;go_ret;exact ⟨rfl,G1.out⟩
 ·have h':¬ (0:Int)<(cn:Int):=by omega
  go_enter Tryz.func134,Tryz.ntmps134
  go_wp2_with (go_at_call 61;refine (pagesB_any _ _).mono ?_;rintro en w2 ⟨rfl,rfl⟩)
  go_ret;exact ⟨rfl,G1.out⟩
end Go.Proofs.YteaahinjcfjngaaGreat
namespace Go.Proofs.YteaahinjcfjngaaGreat
def NvT (Q:Int->Prop):(n:Nat)->NdT n->Prop
 | 0,x=>Q (LfT.no x)
 | n+1,x=>Q (BnT.no (T:=NdT n) x)/\∀ k∈(BnT.row (T:=NdT n) x).ns,NvT Q n k
def NoQ (z:Int):Prop:=z=0∨2<=z/\z<524287
def frP (p:PrT):Nat:=if p.chain.length=0 then (pgB p.val.length).toNat else 0
end Go.Proofs.YteaahinjcfjngaaGreat
namespace Go.Proofs.YteaahinjcfjngaaGreat
open Go.RowKit Go.Maps
def nzT (l:List Int):List Int:=l.filter fun z=>z != 0
def SeT (w:World)(b:Nat)(S:List Int):Prop:=∃ (D:DataW Unit),w.ownsMap Tryz.prog 3 unitElem b (Maps.size D) D/\(∀ k,Maps.has D k=true↔∃ z∈S,k=.int .i64 z)/\∀ z∈S,2<=z/\z<524287
theorem SeT.of {w:World}{b n:Nat}{D:DataW Unit}{S:List Int}(h:w.ownsMap Tryz.prog 3 unitElem b n D)(k:∀ k,Maps.has D k=true↔∃ z∈S,k=.int .i64 z)(hs:∀ z∈S,2<=z/\z<524287):SeT w b S:=by
 refine ⟨D,?_,k,hs⟩;obtain ⟨es,clock,hb,F,hs,hD⟩:=h;refine ⟨es,clock,hb,F,?_,hD⟩;have:=congrArg Maps.size hD;simp [Maps.size,length_sorted] at this;rw [hD];simp [Maps.size,length_sorted]
theorem SeT.congr {w:World}{b:Nat}{S S':List Int}(h:SeT w b S)(e:∀ z,z∈S↔z∈S'):SeT w b S':=by
 obtain ⟨D,h1,h2,h3⟩:=h;refine ⟨D,h1,fun k=>(h2 k).trans ⟨?_,?_⟩,fun z hz=>h3 z ((e z).2 hz)⟩
 ·rintro ⟨z,hz,hk⟩
  exact ⟨z,(e z).1 hz,hk⟩
 ·rintro ⟨z,hz,hk⟩
  exact ⟨z,(e z).2 hz,hk⟩
theorem SeT.kept {w w':World}{b:Nat}{S:List Int}{row:Option Nat}(h:SeT w b S)(hg:w.grownBy w' row)(hne:some b≠row):SeT w' b S:=by
 obtain ⟨D,h,h1⟩:=h;exact ⟨D,World.ownsMap.kept h hg hne,h1⟩
theorem SeT.keptN {w w':World}{b:Nat}{S:List Int}(h:SeT w b S)(hg:w.grownBy w' none):SeT w' b S:=h.kept hg (by simp)
theorem SeT.made (w:World):SeT (w.alloc (.map #[] 0)) w.heap.size []:=SeT.of (World.ownsMap_made w _ _ _) (fun k=>by simp [Maps.has]) (fun z hz=>by cases hz)
theorem FrT.mapS {w w':World}{b:Nat}{S:List Int}(h:SeT w b S)(hg:w.grownBy w' (some b)):FrT w w':=⟨fun g t cur z _ e=>by
 have hne:some g≠some b:=fun e2=>by
  obtain ⟨D,⟨es,clock,hb,_⟩,_⟩:=h;simp only [Option.some.injEq] at e2;subst e2;rw [hb] at e;simp at e
 rw [hg.block g (Array.getElem?_eq_some_iff.1 e).1 hne];exact e⟩
theorem SeT.not {w:World}{b B i:Nat}{v:Value}{S:List Int}(h:SeT w b S)(hc:w.cell? ⟨B,i,none⟩=some v):some B≠some b:=fun e2=>by
 obtain ⟨D,⟨es,clock,hb,_⟩,_⟩:=h;simp only [Option.some.injEq] at e2;subst e2;unfold World.cell? at hc;simp [hb] at hc
theorem SeT.few {S:List Int}{D:DataW Unit}(h2:∀ k,Maps.has D k=true↔∃ z∈S,k=.int .i64 z)(h3:∀ z∈S,2<=z/\z<524287)(hc:Canon D):Maps.size D<=524285:=by
 refine InN.few (fun k hk=>?_) hc;obtain ⟨z,hz,e⟩:=(h2 k).1 hk;exact ⟨z,e,h3 z hz⟩
theorem has_putS {S:List Int}{D:DataW Unit}{z:Int}(hm:IsMap D)(h2:∀ k,Maps.has D k=true↔∃ z∈S,k=.int .i64 z)(v:DataW Unit):∀ k,Maps.has (D.put (.int .i64 z) v) k=true↔∃ y∈S++[z],k=.int .i64 y:=by
 intro k
 by_cases e:k=.int .i64 z
 ·subst e
  rw [has_put_same hm (by simp [WideAt.IsKeyLit])];simp
 ·rw [has_put_other e,h2]
  constructor
  ·rintro ⟨y,hy,rfl⟩
   exact ⟨y,List.mem_append_left _ hy,rfl⟩
  ·rintro ⟨y,hy,rfl⟩
   rcases List.mem_append.1 hy with hy | hy
   ·exact ⟨y,hy,rfl⟩
   ·exact absurd (by rw [List.mem_singleton.1 hy]) e
theorem nz_takeS {l:List Int}{i:Nat}{z:Int}(h:l[i]?=some z):nzT (l.take (i+1))=nzT (l.take i)++if z != 0 then [z] else []:=by
 unfold nzT;rw [List.take_add_one,h,List.filter_append]
 congr 1
 simp [List.filter_cons]
theorem addS_any {w:World}{b:Nat}{S:List Int}(a:Option Addr)(n c:Nat)(zs:List Int)(h:SeT w b S)(hz:NmT w a n c zs)(hq:∀ z∈zs,z=0∨2<=z/\z<524287) :
  Calls Tryz.prog 106 #[.map (some b),.slice a n c] w fun en w'=>en=.returned (.tuple #[])/\SeT w' b (S++nzT zs)/\w.grownBy w' (some b):=by
 have HS:=hZq h;have HZ:=hZq hz;have HQ:=hZq hq;have hlen:zs.length=n:=by have:=hz.len;simpa using this
 obtain ⟨hc1,hc2⟩:n<=c/\c<=9223372036854775807:=⟨hz.cap,hz.c2⟩;have HL:=hZq hlen;clear h hz hq hlen;go_enter Tryz.func106,Tryz.ntmps106;go_wp2;go_loopw [5,8] (fun _ si wr=>∃ i:Nat,i<=n/\si=.int .i64 (i:Nat)/\w.grownBy wr (some b)/\SeT wr b (S++nzT (zs.take i))) (fun _ si _=>n - (intOf si).toNat)
 case atStart=>exact ⟨0,Nat.zero_le _,rfl,World.grownBy.refl _ _,HS.out.congr (fun z=>by simp [nzT])⟩
 case round =>
  obtain ⟨i,hi,rfl,hg,hb⟩:=hrel;have HG:=hZq hg;have HB:=hZq hb;clear hg hb
  by_cases hlt:i<n
  ·have i0:(0:Int)<=(i:Int):=by omega
   have i1:(i:Int)<(n:Int):=by omega
   obtain ⟨z,hx⟩:∃ z,zs[i]?=some z:=⟨_,List.getElem?_eq_getElem (by have:=HL.out;omega)⟩;obtain ⟨g,off,rfl,ht,hcl⟩:=HZ.out.cell i [.int .i64 z] (by rw [List.getElem?_map,hx];rfl);have hzc:=(FrT.mapS HS.out HG.out).cell (by decide) ht (hcl 0 _ rfl);rw [show off+i*1+0=off+i by omega] at hzc;have HX:=hZq (nz_takeS hx);have hr:=HQ.out z (List.mem_of_getElem? hx);clear ht hcl hx
   by_cases h0:z=0
   ·subst h0
    go_wp2_with fail
    go_roundw
    case rel=>exact ⟨i+1,by omega,by go_num,HG.out,by rw [HX.out];simpa using HB.out⟩
    case measure=>simp [intOf];omega
   ·have z0:(z != 0)=true:=by simp [h0]
    have hwf:=wfN (z:=z) (by omega);obtain ⟨D,hD,hD2,hD3⟩:=HB.out;have hn:=SeT.few hD2 hD3 (World.ownsMap.canon hD keyedN);have HM:=hZq (World.ownsMap.isMap hD);have HD:=hZq hD;have HR:Hid (2<=z/\z<524287):=by rcases hr with hr | hr;exact absurd hr h0;exact hr
    clear hD hr
    go_wp2_with (at_mapUpdate;refine wpList_mapUpdate_own _ rfl _ _ _ 109 rfl 3 131 keyedN Tryz.underlying109 _ b (Maps.size D) D rfl HD.out (by unfold maxLen;omega) _ _ _ rfl rfl (keyOf_int_mk Tryz.underlying3 hwf) _ [] unitElem_mk ?_;intro w1 hown1 hg1)
    go_roundw
    case rel =>
     refine ⟨i+1,by omega,by go_num,gZq HG.out hg1,?_⟩;rw [HX.out,if_pos z0,<- List.append_assoc];refine SeT.of hown1 (has_putS HM.out hD2 _) (fun y hy=>?_);rcases List.mem_append.1 hy with hy | hy
     ·exact hD3 y hy
     ·rw [List.mem_singleton.1 hy]
      exact HR.out
    case measure=>simp [intOf];omega
  ·have hk:i=n:=by omega
   subst hk;have ht:zs.take i=zs:=List.take_of_length_le (by have:=HL.out;omega);rw [ht] at HB;go_wp2;refine bodyPost_end (results_none rfl _ _ _) rfl ?_;exact ⟨rfl,HB.out,HG.out⟩
def TkSP (w:World)(b:Nat)(z:Int)(S:List Int)(en:Ending)(w':World):Prop:=en=.returned (.bool (decide (2<=z/\z<524287/\z ∉ S)))/\SeT w' b (if 2<=z/\z<524287/\z ∉ S then S++[z] else S)/\w.grownBy w' (some b)
theorem tks_no {w w':World}{b:Nat}{z:Int}{S:List Int}(h:¬ (2<=z/\z<524287/\z ∉ S))(hs:SeT w' b S)(hg:w.grownBy w' (some b)):TkSP w b z S (.returned (.bool false)) w':=by
 unfold TkSP;rw [if_neg h];exact ⟨by simp only [decide_eq_false h],hs,hg⟩
theorem tks_yes {w w':World}{b:Nat}{z:Int}{S:List Int}(h:2<=z/\z<524287/\z ∉ S)(hs:SeT w' b (S++[z]))(hg:w.grownBy w' (some b)):TkSP w b z S (.returned (.bool true)) w':=by
 unfold TkSP;rw [if_pos h];exact ⟨by simp only [decide_eq_true h],hs,hg⟩
theorem takeS_any {w:World}{b:Nat}{S:List Int}(z:Int)(h:SeT w b S)(hz:-9223372036854775808<=z/\z<=9223372036854775807) :
  Calls Tryz.prog 77 #[.map (some b),.int .i64 z] w fun en w'=>TkSP w b z S en w':=by
 have HB:=hZq h;obtain ⟨D,hD,hD2,hD3⟩:=h;have HD:=hZq hD;have hwf:=wfN (z:=z) hz;have ga:=World.grownBy_alloc w (.cells #[] 131) none;have HG:=hZq ga;have HM:Hid (Go.Maps.has D (Lit.int .i64 z)=true↔z∈S):=(hD2 (.int .i64 z)).trans ⟨by rintro ⟨y,hy,e⟩;cases e;exact hy,fun hy=>⟨z,hy,rfl⟩⟩;clear hD ga hD2 hD3;go_enter Tryz.func77,Tryz.ntmps77;go_upto_region 2 with (at_lookup;refine wpList_lookup_own_unit _ rfl _ _ 109 rfl 3 131 keyedN Tryz.underlying109 (zeroU _) b (Maps.size D) D rfl HD.out _ _ rfl (keyOf_int_mk Tryz.underlying3 hwf) ?_)
 generalize Go.Maps.has D (Lit.int .i64 z)=f at *;clear HD;generalize w.alloc (.cells #[] 131)=w1 at *;have HB1:=hZq (HB.out.keptN HG.out);cases f with
 | true =>
  have hin:=HM.out.1 rfl;have HI:=hZq hin;clear hin;go_wp2;go_ret;exact tks_no (fun h=>h.2.2 HI.out) HB1.out (grown_any HG.out)
 | false =>
  have HI:Hid (z ∉ S):=fun h=>by have:=HM.out.2 h;cases this
  clear HM
  by_cases h1:z<2
  ·go_wp2
   go_ret;exact tks_no (fun h=>by omega) HB1.out (grown_any HG.out)
  ·by_cases h2:524287<=z
   ·go_wp2
    go_ret;exact tks_no (fun h=>by omega) HB1.out (grown_any HG.out)
   ·have ga:=World.grownBy_alloc w1 (.cells #[.int .i64 z] 3) none
    have HA:=hZq (addS_any (some ⟨w1.heap.size,0,none⟩) 1 1 [z] (HB1.out.keptN ga) (EsT.lit w1 3 1 [[.int .i64 z]] _ rfl (by simp) (by intro e he v hv;simp at he;subst he;simp at hv;subst hv;rfl) (by simp)) (fun y hy=>by rw [List.mem_singleton.1 hy];omega));have GA:=hZq (gZq HG.out ga);clear ga
    go_wp2_with fail
    refine HA.out.mono ?_;rintro en w3 ⟨rfl,hb3,hg3⟩;have e0:nzT [z]=[z]:=by simp [nzT];omega
    rw [e0] at hb3;have HB3:=hZq hb3;have G3:=hZq (gZq (grown_any (row:=some b) GA.out) hg3);clear hb3 hg3 e0 HA;go_wp2;go_ret;exact tks_yes ⟨by omega,by omega,HI.out⟩ HB3.out G3.out
end Go.Proofs.YteaahinjcfjngaaGreat
