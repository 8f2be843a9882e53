import Derived.Test.YteaahinjcfjngaaGreatQ11
import Derived.Deep.RegionLaw
set_option maxRecDepth 100000
set_option maxHeartbeats 2000000
namespace Go.Proofs.YteaahinjcfjngaaGreat
open Go.RowKit
structure Lz (w:World)(a:Option Addr)(L:List (List Int)):Prop where
 row:∀ i,i<L.length->∃ b off ao n c,a=some ⟨b,off,none⟩/\w.cell? ⟨b,off+i,none⟩=some (.slice ao n c)/\Byt w ao n c (L.getD i [])/\n<=c/\c<=9223372036854775807
theorem Lz.heap {w w':World}{a:Option Addr}{L:List (List Int)}(h:Lz w a L)(e:w'.heap=w.heap):Lz w' a L:=by
 refine ⟨fun i hi=>?_⟩;obtain ⟨b,off,ao,n,c,h1,h2,h3,h4,h5⟩:=h.row i hi;exact ⟨b,off,ao,n,c,h1,(World.cell?_of_block (by rw [e])).trans h2,h3.heap e,h4,h5⟩
theorem Lz.keptN {w w':World}{a:Option Addr}{L:List (List Int)}(h:Lz w a L)(hg:w.grownBy w' none):Lz w' a L:=by
 refine ⟨fun i hi=>?_⟩;obtain ⟨b,off,ao,n,c,h1,h2,h3,h4,h5⟩:=h.row i hi;exact ⟨b,off,ao,n,c,h1,hg.cell h2 (by simp),h3.keptN hg,h4,h5⟩
theorem Lz.tail {w:World}{b off:Nat}{z:List Int}{L:List (List Int)}(h:Lz w (some ⟨b,off,none⟩) (z::L)):Lz w (some ⟨b,off+1,none⟩) L:=by
 refine ⟨fun i hi=>?_⟩;obtain ⟨b',off',ao,n,c,h1,h2,h3,h4,h5⟩:=h.row (i+1) (by simpa using hi);simp only [Option.some.injEq,Addr.mk.injEq] at h1;obtain ⟨rfl,rfl,_⟩:=h1;exact ⟨b,off+1,ao,n,c,rfl,by rw [show off+1+i=off+(i+1) by omega];exact h2,by simpa using h3,h4,h5⟩
theorem Lz.zero (w:World)(a:Option Addr):Lz w a []:=⟨fun i hi=>by simp at hi⟩
theorem comAll_snoc (f:List Int)(k:Nat)(L:List (List Int))(i:Nat)(h:i<L.length):comAll f k (L.take (i+1))=min (comAll f k (L.take i)) (com f (L.getD i [])):=by
 have e:L.getD i []=L[i]:=by simp [List.getD,List.getElem?_eq_getElem h]
 unfold comAll;rw [List.take_add_one,List.getElem?_eq_getElem h,List.foldl_append,e]
 rfl
theorem step_any (B k:Nat)(ao:Option Addr)(n c:Nat)(zf:List Int)(bo:Option Addr)(m d:Nat)(zs:List Int)(w:World)(hc:w.cell? ⟨B,0,none⟩=some (.slice ao n c))(hf:Byt w ao n c zf)(hk:k<=n)(hnc:n<=c)(hc2:c<=9223372036854775807)(hb:Byt w bo m d zs)(hm:m<=9223372036854775807) :
  Calls Tryz.prog 136 #[.int .i64 k,.slice bo m d,.pointer (some ⟨B,0,none⟩)] w fun en w'=>en=.returned (.int .i64 ((min k (com zf zs):Nat):Int))/\Dr w w':=by
 rw [<- com_take];have HB:=hZq hb;clear hb;cases ao with
 | none =>
  obtain ⟨rfl,rfl⟩:=hf.nil rfl;obtain rfl:k=0:=by omega
  have HF:=hZq (hf.take 0 0 (Nat.le_refl _) (fun _=>rfl));clear hf;go_enter Tryz.func136,Tryz.ntmps136
  go_wp2_with fail
  refine (common_any _ _ _ _ _ _ _ _ _ HF.out HB.out (by omega) hm).mono ?_;rintro en w1 ⟨rfl,hq⟩;have HQ:=hZq hq;clear hq;go_wp2;go_ret;exact ⟨rfl,HQ.out⟩
 | some ad =>
  have HF:=hZq (hf.take k c hk (fun e=>by cases e));clear hf;go_enter Tryz.func136,Tryz.ntmps136
  go_wp2_with fail
  refine (common_any _ _ _ _ _ _ _ _ _ HF.out HB.out (by omega) hm).mono ?_;rintro en w1 ⟨rfl,hq⟩;have HQ:=hZq hq;clear hq;go_wp2;go_ret;exact ⟨rfl,HQ.out⟩
theorem fold_any (B k:Nat)(ao:Option Addr)(n c:Nat)(zf:List Int)(a:Option Addr)(cap:Nat)(L:List (List Int))(w:World)(hc:w.cell? ⟨B,0,none⟩=some (.slice ao n c))(hf:Byt w ao n c zf)(hk:k<=n)(hnc:n<=c)(hc2:c<=9223372036854775807)(hl:Lz w a L)(hL:L.length<=9223372036854775807) :
  Calls Tryz.prog 135 #[.slice a L.length cap,.int .i64 k,.func (.func 136) #[] #[.pointer (some ⟨B,0,none⟩)]] w fun en w'=>en=.returned (.int .i64 ((comAll zf k L:Nat):Int))/\Dr w w':=by
 have HC:=hZq hc;have HF:=hZq hf;have HL:=hZq hl;have HE:Hid (L.take L.length=L):=List.take_length;clear hc hf hl;go_enter Tryz.func135,Tryz.ntmps135;go_wp2;go_loopw [1,8,11] (fun st _ si wr=>∃ i:Nat,i<=L.length/\si=.int .i64 i/\st=.int .i64 ((comAll zf k (L.take i):Nat):Int)/\Dr w wr) (fun _ _ si _=>L.length - (intOf si).toNat)
 case atStart=>exact ⟨0,Nat.zero_le _,rfl,rfl,Dr.refl _⟩
 case round =>
  obtain ⟨i,hi,rfl,rfl,hq⟩:=hrel;have HQ:=hZq hq;clear hq
  by_cases hlt:i<L.length
  ·obtain ⟨b,off,bo,m,d,rfl,h2,h3,h4,h5⟩:=HL.out.row i hlt
   have c1:=(HQ.out.cell _).trans h2;have HB:=hZq (h3.heap HQ.out.qt.heap);have HS:=hZq (comAll_snoc zf k L i hlt);have hle:comAll zf k (L.take i)<=n:=Nat.le_trans (comAll_le zf _ k) hk;have g1:(i:Int)<(L.length:Int):=by omega
   have g0:(0:Int)<=(i:Int):=by omega
   clear h2 h3;generalize comAll zf k (L.take i)=t at *
   go_wp2_with fail
   refine (step_any B t ao n c zf bo m d _ wr ((HQ.out.cell _).trans HC.out) (HF.out.heap HQ.out.qt.heap) hle hnc hc2 HB.out (by omega)).mono ?_;rintro en w1 ⟨rfl,hq⟩;rw [<- HS.out];have HQ1:=hZq (HQ.out.trans hq);clear hq;go_wp2;go_roundw
   case rel=>exact ⟨i+1,by omega,by go_num,rfl,HQ1.out⟩
   case measure=>simp [intOf];omega
  ·have hin:i=L.length:=by omega
   subst hin;rw [HE.out];go_wp2;go_ret;exact ⟨rfl,HQ.out⟩
def comList:List (List Int)->Nat
 | []=>0
 | z::L=>comAll z z.length L
theorem commonAll_none (a:Option Addr)(cap:Nat)(w:World):Calls Tryz.prog 112 #[.slice a 0 cap] w fun en w'=>en=.returned (.int .i64 0)/\w'=w:=by
 go_enter Tryz.func112,Tryz.ntmps112;go_wp2;go_ret;exact ⟨rfl,rfl⟩
theorem commonAll_some (a:Option Addr)(cap:Nat)(z:List Int)(L:List (List Int))(w:World)(hl:Lz w a (z::L))(hc:L.length+1<=cap)(hcap:cap<=9223372036854775807) :
  Calls Tryz.prog 112 #[.slice a (L.length+1) cap] w fun en w'=>en=.returned (.int .i64 ((comList (z::L):Nat):Int))/\w.grownBy w' none:=by
 have HM:Hid (comList (z::L)=comAll z z.length L):=rfl;obtain ⟨b,off,ao,n,c,rfl,h2,h3,h4,h5⟩:=hl.row 0 (by simp);have h3':Byt w ao n c z:=by simpa using h3
 have hz:=h3'.len;have HG:=hZq (World.grownBy_alloc w (.cells #[.slice ao n c] 62) none);have HF:=hZq (h3'.keptN HG.out);have HL:=hZq (hl.keptN HG.out)
 have k1:(w.alloc (.cells #[.slice ao n c] 62)).cell? ⟨w.heap.size,0,none⟩=some (.slice ao n c):=by
  rw [cell_of_row _ w.heap.size 0 _ _ (0,0) (heap_alloc_new w _)];rfl
 have HK:=hZq k1;rw [Nat.add_zero] at h2;clear h3 h3' hl k1;go_enter Tryz.func112,Tryz.ntmps112;go_wp2;have c1:=HK.out;generalize w.alloc (.cells #[.slice ao n c] 62)=w1 at *;have hmf:∀ (fn:Fn) (first cap:Array Value) (w:World),(Instr.makeFunc fn first cap).run Tryz.prog w=.ok (.func fn first cap) w:=fun _ _ _ _=>rfl
 by_cases hc1:cap=1
 ·obtain rfl:L=[]:=List.length_eq_zero_iff.1 (by omega)
  subst hc1
  go_quiet ((go_at_call 135;exact Calls.quiet_of (fold_any w.heap.size n ao n c z _ _ [] _ (by exact HK.out) (HF.out.heap rfl) (Nat.le_refl _) h4 h5 (Lz.zero _ _) (by simp))))
  go_wp2;go_ret;exact ⟨ret_int (by rw [HM.out,hz]),gZq HG.out ((Qt.drewN _ _).grown _)⟩
 ·have hc2:1<cap:=by omega
  have HT:=hZq HL.out.tail;clear HL
  go_quiet ((go_at_call 135;exact Calls.quiet_of (fold_any w.heap.size n ao n c z _ _ L _ (by exact HK.out) (HF.out.heap rfl) (Nat.le_refl _) h4 h5 (HT.out.heap rfl) (by omega))))
  go_wp2;go_ret;exact ⟨ret_int (by rw [HM.out,hz]),gZq HG.out ((Qt.drewN _ _).grown _)⟩
end Go.Proofs.YteaahinjcfjngaaGreat
