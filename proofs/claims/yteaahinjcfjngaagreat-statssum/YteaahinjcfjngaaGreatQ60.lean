import Derived.Test.YteaahinjcfjngaaGreatQ30
set_option maxRecDepth 100000
set_option maxHeartbeats 4000000
namespace Go.Proofs.YteaahinjcfjngaaGreat
open Go.RowKit
theorem sameChains10 (no1 lv1 p1 s1 k1 no2 lv2 p2 s2 k2:Value)(a b:Option Addr)(n c d:Nat)(C:List (List Int))(w:World)(h1:ZlW w a C)(h2:ZlW w b C)(hn:C.length=n)(hm:n<=9223372036854775807)(hs:∀ s∈C,s.length<=9223372036854775807) :
  Calls Tryz.prog 65 #[.agg #[no1,lv1,p1,.slice a n c,s1,k1],.agg #[no2,lv2,p2,.slice b n d,s2,k2]] w fun en w'=>en=.returned (.bool true)/\w.grownBy w' none:=by
 have ga:=World.grownBy_alloc w (.cells #[no1,lv1,p1,.slice a n c,s1,k1] 61) none;have gb:=World.grownBy_alloc (w.alloc (.cells #[no1,lv1,p1,.slice a n c,s1,k1] 61)) (.cells #[no2,lv2,p2,.slice b n d,s2,k2] 61) none;have X1:=hZq (heap_kept (heap_at0 w #[no1,lv1,p1,.slice a n c,s1,k1] 61) gb);have Y1:=hZq (heap_at0 (w.alloc (.cells #[no1,lv1,p1,.slice a n c,s1,k1] 61)) #[no2,lv2,p2,.slice b n d,s2,k2] 61);have hs1:(w.alloc (.cells #[no1,lv1,p1,.slice a n c,s1,k1] 61)).heap.size=w.heap.size+1:=by simp
 rw [hs1] at Y1;have HG:=hZq (gZq ga gb);have HL:=hZq (h1.kept HG.out);have HM:=hZq (h2.kept HG.out);have HS:=hZq hs;clear ga gb h1 h2 hs hs1;go_enter Tryz.func65,Tryz.ntmps65;go_upto_region 1 with fail
 generalize (w.alloc (.cells #[no1,lv1,p1,.slice a n c,s1,k1] 61)).alloc (.cells #[no2,lv2,p2,.slice b n d,s2,k2] 61)=w1 at *;obtain ⟨B,hB⟩:∃ B,w.heap.size=B:=⟨_,rfl⟩;rw [hB] at X1 Y1 ⊢;clear hB;have x3:=cell_heap (i:=3) X1.out rfl;have y3:=cell_heap (i:=3) Y1.out rfl;have gm:max (n:Int) (n:Int)=(n:Int):=by simp
 go_upto_block 0 with fail
 go_wp2_with fail
 go_loopw [6,7,8,9] (fun si _ _ _ wr=>∃ i:Nat,i<=n/\si=.int .i64 (i:Nat)/\Qt w1 wr) (fun si _ _ _ _=>n - (intOf si).toNat)
 case atStart=>exact ⟨0,Nat.zero_le _,rfl,Qt.refl _⟩
 case round =>
  obtain ⟨i,hi,rfl,hq⟩:=hrel;have HQ:=hZq hq;clear hq;have e3:=(HQ.out.cell _).trans x3;have f3:=(HQ.out.cell _).trans y3
  by_cases hlt:i<n
  ·obtain ⟨z,hz⟩:∃ z,C[i]?=some z:=⟨_,List.getElem?_eq_getElem (by omega)⟩
   obtain ⟨b1,o1,ao1,c1,rfl,q1,q3⟩:=HL.out i z hz;obtain ⟨b2,o2,ao2,c2,rfl,q2,q4⟩:=HM.out i z hz;have q1':=(HQ.out.cell _).trans q1;have q2':=(HQ.out.cell _).trans q2;have hzl:=HS.out z (List.mem_of_getElem? hz);have HC:=hZq (sameInts10 ao1 ao2 _ c1 c2 z wr (q3.heap HQ.out.heap) (q4.heap HQ.out.heap) rfl (by omega));have g1:(0:Int)<=(i:Int):=by omega
   have g2:(i:Int)<(n:Int):=by omega
   clear hz q1 q2 q3 q4 hzl;generalize z.length=zl at *
   go_wp2_with fail
   refine HC.out.mono ?_;rintro en w9 ⟨rfl,hq9⟩;have Q9:=hZq (HQ.out.trans hq9);clear hq9 HC;go_wp2;go_roundw
   case rel=>exact ⟨i+1,by omega,by go_num,Q9.out⟩
   case measure=>simp [intOf];omega
  ·obtain rfl:i=n:=by omega
   go_wp2;go_ret;exact ⟨rfl,gZq HG.out (HQ.out.grown none)⟩
end Go.Proofs.YteaahinjcfjngaaGreat
