import Derived.Test.YteaahinjcfjngaaGreatQ15
import Derived.Laws.EntriesVeiled
set_option maxRecDepth 100000
set_option maxHeartbeats 4000000
namespace Go.Proofs.YteaahinjcfjngaaGreat
open Go.RowKit
theorem cfits_any (s:Nat)(w:World):Calls Tryz.prog 109 #[.int .i64 s] w fun en w'=>en=.returned (.bool (decide (s<=4092)))/\w'=w:=by
 have h:(0:Int)<=(s:Int):=by omega
 have hd:decide (s<=4092)=decide ((s:Int)<=4092):=by congr 1;apply propext;omega
 rw [hd];go_enter Tryz.func109,Tryz.ntmps109;go_wp2;go_ret;exact ⟨rfl,rfl⟩
theorem great_it (S T U F G b off n cap i:Nat)(L:List It)(W:World)(hc:Cb W S T U (some ⟨b,off,none⟩) n cap 0)(hd:Cd W S T U F G)(hl:Il W (some ⟨b,off,none⟩) L)(hn:L.length=n)(hm:n<=5000)(hcap:n<=cap)(hc2:cap<=9223372036854775807)(hk:∀ x∈L,x.key.length<=140737488351232)(hi:i<=n) :
  Calls Tryz.prog 146 #[.int .i64 i,.pointer (some ⟨F,0,none⟩),.pointer (some ⟨G,0,none⟩)] W fun en w'=>en=.returned (.int .i64 ((mx (fun i=>size (L.take i)) (fun i=>size (L.drop i)) i:Nat):Int))/\W.grownBy w' none :=
 greater_it S T U F G i _ _ W hd (fun V h=>first_it S T U b off n cap 0 i L V (hc.keptN h) (hl.keptN h) hn hm hcap hc2 hk (Nat.zero_le _) hi) (fun V h=>second_it S T U b off n cap 0 i L V (hc.keptN h) (hl.keptN h) hn hm hcap hc2 hk hi)
theorem catch_it (S T U F G b off n cap k:Nat)(L:List It)(W:World)(hc:Cb W S T U (some ⟨b,off,none⟩) n cap 0)(hd:Cd W S T U F G)(hl:Il W (some ⟨b,off,none⟩) L)(hn:L.length=n)(hm:n<=5000)(hcap:n<=cap)(hc2:cap<=9223372036854775807)(hk:∀ x∈L,x.key.length<=140737488351232)(hi:k+1<=n) :
  Calls Tryz.prog 148 #[.int .i64 k,.pointer (some ⟨F,0,none⟩),.pointer (some ⟨G,0,none⟩)] W fun en w'=>en=.returned (.bool (decide (size (L.drop (k+1))<=size (L.take (k+1)))))/\W.grownBy w' none :=
 pred_it S T U F G k _ _ W (by omega) hd (fun V h=>first_it S T U b off n cap 0 (k+1) L V (hc.keptN h) (hl.keptN h) hn hm hcap hc2 hk (Nat.zero_le _) hi) (fun V h=>second_it S T U b off n cap 0 (k+1) L V (hc.keptN h) (hl.keptN h) hn hm hcap hc2 hk hi)
def cwI (w:World)(a:Option Addr)(n cap:Nat):World :=
 ((((w.alloc (.cells #[.slice a n cap] 120)).alloc (.cells #[.int .i64 0] 3)).alloc (.cells #[.func (.func 81) #[] #[]] 123)).alloc
  (.cells #[.func (.func 144) #[] #[.pointer (some ⟨w.heap.size+1+1,0,none⟩),.pointer (some ⟨w.heap.size,0,none⟩),.pointer (some ⟨w.heap.size+1,0,none⟩)]] 84)).alloc
  (.cells #[.func (.func 145) #[] #[.pointer (some ⟨w.heap.size+1+1,0,none⟩),.pointer (some ⟨w.heap.size,0,none⟩)]] 84)
theorem cell_new9 (w:World)(v:Value)(t:TypeId)(k:Nat)(hk:k=w.heap.size):(w.alloc (.cells #[v] t)).cell? ⟨k,0,none⟩=some v:=by
 subst hk;rw [cell_of_row _ w.heap.size 0 _ _ (0,0) (heap_alloc_new w _)];rfl
theorem size_new9 (w:World)(o:Obj):(w.alloc o).heap.size=w.heap.size+1:=by simp
theorem cell_on9 {w:World}{o:Obj}{a:Addr}{v:Value}(h:w.cell? a=some v):(w.alloc o).cell? a=some v:=(World.grownBy_alloc w o none).cell h (by simp)
theorem cwI_grown (w:World)(a:Option Addr)(n cap:Nat):w.grownBy (cwI w a n cap) none :=
 gZq (gZq (gZq (gZq (World.grownBy_alloc _ _ none) (World.grownBy_alloc _ _ none)) (World.grownBy_alloc _ _ none)) (World.grownBy_alloc _ _ none)) (World.grownBy_alloc _ _ none)
theorem cwI_cb (w:World)(a:Option Addr)(n cap:Nat):Cb (cwI w a n cap) (w.heap.size+1+1) w.heap.size (w.heap.size+1) a n cap 0 :=
 ⟨cell_on9 (cell_on9 (cell_new9 _ _ _ _ (by simp only [size_new9]))),cell_on9 (cell_on9 (cell_on9 (cell_on9 (cell_new9 _ _ _ _ rfl)))),cell_on9 (cell_on9 (cell_on9 (cell_new9 _ _ _ _ (by simp only [size_new9]))))⟩
theorem cwI_cd (w:World)(a:Option Addr)(n cap:Nat):Cd (cwI w a n cap) (w.heap.size+1+1) w.heap.size (w.heap.size+1) (w.heap.size+1+1+1) (w.heap.size+1+1+1+1) :=
 ⟨cell_on9 (cell_new9 _ _ _ _ (by simp only [size_new9])),cell_new9 _ _ _ _ (by simp only [size_new9])⟩
theorem place_it (a:Option Addr)(n cap:Nat)(L:List It)(w:World)(hl:Il w a L)(hn:L.length=n)(hm:n<=5000)(hcap:n<=cap)(hc2:cap<=9223372036854775807)(hk:∀ x∈L,x.key.length<=140737488351232) :
  Calls Tryz.prog 142 #[.slice a n cap,.int .i64 0,.func (.func 81) #[] #[]] w fun en w'=>(∃ r:Nat,en=.returned (.int .i64 r)/\Best (fun i=>size (L.take i)) (fun i=>size (L.drop i)) (n - 1) r)/\w.grownBy w' none:=by
 by_cases h2:n<2
 ·have HB:Hid (Best (fun i=>size (L.take i)) (fun i=>size (L.drop i)) (n - 1) 0):=by
   rw [show n - 1=0 by omega];exact Best.none _ _
  clear hl hk;go_enter Tryz.func142,Tryz.ntmps142;go_wp2;go_ret;exact ⟨⟨0,rfl,HB.out⟩,gZq (gZq (World.grownBy_alloc _ _ none) (World.grownBy_alloc _ _ none)) (World.grownBy_alloc _ _ none)⟩
 ·obtain ⟨b,off,rfl⟩:∃ b off,a=some ⟨b,off,none⟩:=by
   obtain ⟨b,off,_,_,_,_,_,_,e,_⟩:=hl.row 0 (by omega);exact ⟨b,off,e⟩
  obtain ⟨l,hl2⟩:∃ l:Nat,l+2=n:=⟨n - 2,by omega⟩;have e2:(n:Int) - 1 - 1=(l:Int):=by omega
  have HC:=hZq (cwI_cb w (some ⟨b,off,none⟩) n cap);have HD:=hZq (cwI_cd w (some ⟨b,off,none⟩) n cap);have HG:=hZq (cwI_grown w (some ⟨b,off,none⟩) n cap);have HGR:=hZq (fun (W:World) (i:Nat) (h:(cwI w (some ⟨b,off,none⟩) n cap).grownBy W none) (hi:i<=n)=>great_it _ _ _ _ _ b off n cap i L W (HC.out.keptN h) (HD.out.keptN h) (hl.keptN (gZq HG.out h)) hn hm hcap hc2 hk hi);have HPR:=hZq (fun (W:World) (k:Nat) (h:(cwI w (some ⟨b,off,none⟩) n cap).grownBy W none) (hi:k+1<=n)=>catch_it _ _ _ _ _ b off n cap k L W (HC.out.keptN h) (HD.out.keptN h) (hl.keptN (gZq HG.out h)) hn hm hcap hc2 hk hi);have HPL:=hZq (fun (k:Nat) (h:Found (fun i=>size (L.take i)) (fun i=>size (L.drop i)) l k)=>best_place (f:=fun i=>size (L.take i)) (g:=fun i=>size (L.drop i)) (n:=l) (fun i j _ h1 h2=>take_less L h1 (by omega)) (fun i j _ h1 h2=>drop_less L h1 (by omega)) h);clear hl hk HC HD;go_enter Tryz.func142,Tryz.ntmps142
  go_wp2_with fail
  try rw [e2]
  refine (search_it (w.heap.size+1+1+1) (w.heap.size+1+1+1+1) l (fun k=>decide (size (L.drop (k+1))<=size (L.take (k+1)))) (cwI w (some ⟨b,off,none⟩) n cap) (by omega) (fun k w1 hk1 hg1=>HPR.out w1 k hg1 (by omega))).mono ?_;rintro en w2 ⟨⟨k,rfl,hk1,hk2,hk3⟩,hg2⟩
  have HFO:Hid (Found (fun i=>size (L.take i)) (fun i=>size (L.drop i)) l k):=by
   refine ⟨hk1,fun h=>?_,fun h=>?_⟩
   ·have:=hk2 h
    rw [show k - 1+1=k by omega] at this;simpa using this
   ·simpa using hk3 h
  have HP2:=hZq (HPL.out k HFO.out);have HG2:=hZq hg2;clear hk2 hk3 hg2 HPR HPL HFO;have hln:l+1=n - 1:=by omega
  have HB:Hid (∀ r,r=(if 1<1+k/\mx (fun i=>size (L.take i)) (fun i=>size (L.drop i)) k<=mx (fun i=>size (L.take i)) (fun i=>size (L.drop i)) (1+k) then k else 1+k)->Best (fun i=>size (L.take i)) (fun i=>size (L.drop i)) (n - 1) (if mx (fun i=>size (L.take i)) (fun i=>size (L.drop i)) r<=4092 then r else 0)):=by
   rw [<- hln];exact HP2.out
  clear HP2 hln;generalize mx (fun i=>size (L.take i)) (fun i=>size (L.drop i))=M at HGR HB
  by_cases hk0:k=0
  ·subst hk0
   have HR:=hZq (HB.out 1 (by simp));clear HB
   go_wp2_with fail
   refine (HGR.out w2 1 HG2.out (by omega)).mono ?_;rintro en w3 ⟨rfl,hg3⟩;have HG3:=hZq (gZq HG2.out hg3);clear hg3 HG2 HGR;generalize M 1=m at *
   go_wp2_with fail
   refine (cfits_any m _).mono ?_;rintro en w4 ⟨rfl,rfl⟩
   by_cases hf:m<=4092
   ·have hd:decide (m<=4092)=true:=decide_eq_true hf
    have HR2:=hZq (by have:=HR.out;rwa [if_pos hf] at this);rw [hd];clear hd;go_wp2;go_ret;exact ⟨⟨1,rfl,HR2.out⟩,gZq HG.out HG3.out⟩
   ·have hd:decide (m<=4092)=false:=decide_eq_false hf
    have HR2:=hZq (by have:=HR.out;rwa [if_neg hf] at this);rw [hd];clear hd;go_wp2;go_ret;exact ⟨⟨0,rfl,HR2.out⟩,gZq HG.out HG3.out⟩
  ·obtain ⟨j,hj⟩:∃ j:Nat,1+k=j:=⟨_,rfl⟩
   rw [hj] at HB;have e3:(1:Int)+(k:Int)=(j:Int):=by omega
   have e4:(j:Int) - 1=(k:Int):=by omega
   have h1j:1<j:=by omega
   have hjn:j<=n:=by omega
   have hkn:k<=n:=by omega
   clear hj
   go_wp2_with fail
   refine (HGR.out w2 k HG2.out hkn).mono ?_;rintro en w3 ⟨rfl,hg3⟩;have HG3:=hZq (gZq HG2.out hg3);clear hg3 HG2
   go_wp2_with fail
   refine (HGR.out w3 j HG3.out hjn).mono ?_;rintro en w4 ⟨rfl,hg4⟩;have HG4:=hZq (gZq HG3.out hg4);clear hg4 HG3;obtain ⟨mk,hmk⟩:∃ mk,M k=mk:=⟨_,rfl⟩;obtain ⟨mj,hmj⟩:∃ mj,M j=mj:=⟨_,rfl⟩;rw [hmk,hmj] at HB;rw [hmk,hmj]
   by_cases hle:mk<=mj
   ·have HR:=hZq (HB.out k (by rw [if_pos ⟨h1j,hle⟩]))
    have HGK:=hZq (HGR.out w4 k HG4.out hkn);rw [hmk] at HR HGK;clear HB HGR hmk hmj
    go_wp2_with fail
    refine HGK.out.mono ?_;rintro en w5 ⟨rfl,hg5⟩;have HG5:=hZq (gZq HG4.out hg5);clear hg5 HG4 HGK
    go_wp2_with fail
    refine (cfits_any mk _).mono ?_;rintro en w6 ⟨rfl,rfl⟩
    by_cases hf:mk<=4092
    ·have hd:decide (mk<=4092)=true:=decide_eq_true hf
     have HR2:=hZq (by have:=HR.out;rwa [if_pos hf] at this);rw [hd];clear hd;go_wp2;go_ret;exact ⟨⟨k,rfl,HR2.out⟩,gZq HG.out HG5.out⟩
    ·have hd:decide (mk<=4092)=false:=decide_eq_false hf
     have HR2:=hZq (by have:=HR.out;rwa [if_neg hf] at this);rw [hd];clear hd;go_wp2;go_ret;exact ⟨⟨0,rfl,HR2.out⟩,gZq HG.out HG5.out⟩
   ·have HR:=hZq (HB.out j (by rw [if_neg (fun h=>hle h.2)]))
    have HGK:=hZq (HGR.out w4 j HG4.out hjn);rw [hmj] at HR HGK;clear HB HGR hmk hmj
    go_wp2_with fail
    refine HGK.out.mono ?_;rintro en w5 ⟨rfl,hg5⟩;have HG5:=hZq (gZq HG4.out hg5);clear hg5 HG4 HGK
    go_wp2_with fail
    refine (cfits_any mj _).mono ?_;rintro en w6 ⟨rfl,rfl⟩
    by_cases hf:mj<=4092
    ·have hd:decide (mj<=4092)=true:=decide_eq_true hf
     have HR2:=hZq (by have:=HR.out;rwa [if_pos hf] at this);rw [hd];clear hd;go_wp2;go_ret;exact ⟨⟨j,rfl,HR2.out⟩,gZq HG.out HG5.out⟩
    ·have hd:decide (mj<=4092)=false:=decide_eq_false hf
     have HR2:=hZq (by have:=HR.out;rwa [if_neg hf] at this);rw [hd];clear hd;go_wp2;go_ret;exact ⟨⟨0,rfl,HR2.out⟩,gZq HG.out HG5.out⟩
theorem cutLeaf_any (a:Option Addr)(n cap:Nat)(L:List It)(w:World)(hl:Il w a L)(hn:L.length=n)(hm:n<=5000)(hcap:n<=cap)(hc2:cap<=9223372036854775807)(hk:∀ x∈L,x.key.length<=140737488351232) :
  Calls Tryz.prog 128 #[.slice a n cap] w fun en w'=>(∃ r:Nat,en=.returned (.int .i64 r)/\Best (fun i=>size (L.take i)) (fun i=>size (L.drop i)) (n - 1) r)/\w.grownBy w' none:=by
 have HP:=hZq (place_it a n cap L w hl hn hm hcap hc2 hk);clear hl hk;go_enter Tryz.func128,Tryz.ntmps128
 go_wp2_with fail
 refine HP.out.mono ?_;rintro en w1 ⟨⟨r,rfl,hb⟩,hg⟩;have HB:=hZq hb;have HG:=hZq hg;clear hb hg HP;go_wp2;go_ret;exact ⟨⟨r,rfl,HB.out⟩,HG.out⟩
end Go.Proofs.YteaahinjcfjngaaGreat
