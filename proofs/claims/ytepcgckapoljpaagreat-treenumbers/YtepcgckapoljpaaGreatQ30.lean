import Derived.Test.YtepcgckapoljpaaGreatQ29
import Derived.Test.YtepcgckapoljpaaGreatQ25
set_option maxRecDepth 100000
set_option maxHeartbeats 2000000
namespace Go.Proofs.YtepcgckapoljpaaGreat
open Go.RowKit Go.Maps Go.Sort Go.Shelf
def RisN (l:List Int):Prop:=l.Pairwise (·<·)
theorem sort_ris {us:List Int}(hn:us.Nodup):RisN (us.mergeSort (fun x y=>decide (x<=y)))/\∀ x,x∈us.mergeSort (fun x y=>decide (x<=y))↔x∈us:=by
 have hp:=List.mergeSort_perm us (fun x y=>decide (x<=y))
 have hs:(us.mergeSort (fun x y=>decide (x<=y))).Pairwise (fun x y=>decide (x<=y)=true) :=
  List.pairwise_mergeSort (fun a b c h1 h2=>by simp at *;omega) (fun a b=>by simp;omega) us
 have hn':(us.mergeSort (fun x y=>decide (x<=y))).Nodup:=hp.nodup_iff.2 hn;refine ⟨(hs.and hn').imp fun {a b} hab=>?_,fun x=>hp.mem_iff⟩;have h1:a<=b:=by simpa using hab.1
 have h2:a≠b:=hab.2;omega
theorem keysS {S:List Int}{D:DataW Unit}(hc:Canon D)(h2:∀ k,Maps.has D k=true↔∃ z∈S,k=.int .i64 z):(intKeys D).Nodup/\(∀ z,z∈intKeys D↔z∈S)/\(intKeys D).length=Maps.size D:=by
 obtain ⟨es,rfl,hp,hk⟩:=hc
 have hin:∀ p∈es,∃ z∈S,p.1=.int .i64 z:=fun p hm=>(h2 p.1).1 (by
  rw [has_eq,List.any_eq_true];refine ⟨p,hm,?_⟩;have:=hk p hm
  revert this
  cases p.1 <;> simp [WideAt.IsKeyLit,Lit.sameKey])
 refine ⟨?_,fun z=>⟨fun h=>?_,fun h=>?_⟩,by simp [intKeys,size_eq]⟩
 ·show (es.map fun p=>Go.intOf p.1).Nodup
  unfold List.Nodup;rw [List.pairwise_map];refine (hp.imp_of_mem fun {a b} ha hb hab=>?_);obtain ⟨x,_,ex⟩:=hin a ha;obtain ⟨y,_,ey⟩:=hin b hb;rw [ex,ey] at hab ⊢;have h3:x<y:=by simpa [Lit.before] using hab
  simp [Go.intOf];omega
 ·have h':z∈es.map fun p=>Go.intOf p.1:=h
  obtain ⟨p,hp,rfl⟩:=List.mem_map.1 h';obtain ⟨x,hx,ex⟩:=hin p hp;rw [ex];exact hx
 ·have h3:=(h2 (.int .i64 z)).2 ⟨z,h,rfl⟩
  rw [has_eq,List.any_eq_true] at h3;obtain ⟨p,hp,hs⟩:=h3;obtain ⟨x,_,ex⟩:=hin p hp;rw [ex] at hs;have e:x=z:=by simpa [Lit.sameKey] using hs
  show z∈es.map fun p=>Go.intOf p.1
  exact List.mem_map.2 ⟨p,hp,by rw [ex,<- e];rfl⟩
theorem sortsA (m:Nat):AnyZI.SortsIn Tryz.prog sortedA_ren Fence.wide m :=
 ⟨fun blk off cap ss W hH hblk hsz=>callsIn_wide.2 (AnyM.slices_Sort_int sortA blk off cap ss W hH hblk hsz),
  fun p cap W=>callsIn_wide.2 (AnyM.slices_Sort_int_none sortA p cap W)⟩
def NbrP (w:World)(S:List Int)(en:Ending)(w':World):Prop:=∃ a n c l,en=.returned (.slice a n c)/\NmT w' a n c l/\RisN l/\(∀ z,z∈l↔z∈S)/\(∀ z∈l,2<=z/\z<524287)/\w.grownBy w' none
theorem numbersL_any (t:Option TrT)(p:Nat)(w:World)(ht:TreeT w p t)(hv:NqO t) :
  Calls Tryz.prog 24 #[.pointer (some ⟨p,0,none⟩)] w fun en w'=>NbrP w (gatO t) en w':=by
 refine (callsIn_wide (n:=6)).1 ?_;have cN:=(callsIn_wide (n:=5)).2 (numbers_any t p w ht hv);have cK:∀ mb W,CallsIn Fence.wide 5 Tryz.prog 46 #[.map mb] W fun e w'=>e=.returned (.func (.func 64) #[] #[.pointer (some ⟨W.heap.size,0,none⟩)])/\w'=W.alloc (.cells #[.map mb] 94):=fun mb W=>AnyZI.keys_in keysA Fence.wide 5 trivial rfl mb W
 have hfN:Fence.wide.fn 47:=trivial;have hfK:Fence.wide.fn 46:=trivial;have hfS:Fence.wide.fn 45:=trivial;clear ht;refine callsIn_of_wp Tryz.func24 rfl trivial ?_ rfl;simp only [Tryz.ntmps24,List.size_toArray,List.length_cons,List.length_nil,Nat.reduceAdd,Nat.reduceSub,Array.replicate_succ,Array.replicate_zero,List.push_toArray,List.append_toArray,List.nil_append,List.cons_append]
 gi_wp2_with fail
 refine cN.mono ?_;rintro e w1 ⟨q,rfl,hq,⟨D,hown,hD2,hD3⟩,hg⟩;have hcan:=World.ownsMap.canon hown keyedN;have hsz:=SeT.few hD2 hD3 hcan;obtain ⟨kn,km,kl⟩:=keysS hcan hD2;have hbl:=World.ownsMap.lt hown
 have hseq:SeqGives Fence.wide 2 Tryz.prog 64 #[.pointer (some ⟨w1.heap.size,0,none⟩)] encZ (fun ss=>ss.Perm (intKeys D)) (Maps.size D) (w1.alloc (.cells #[.map (some q)] 94)) :=
  AnyZI.keys_gives (ρ:=keysA_ren) { keysA with } Fence.wide _ trivial rfl (by omega) w1.heap.size q (Maps.size D) D _ (by simp) (by simp) (by
   obtain ⟨es,clock,hb,Ft,hs,hD⟩:=hown;exact ⟨es,clock,(Below.heap_alloc _ _ q hbl).trans hb,Ft,hs,hD⟩)
 have cS:=AnyZI.sorted_in sortedA Fence.wide 5 trivial trivial trivial trivial rfl (by omega) (sortsA _) (enters_of Tryz.func63 (by kernel_rfl) rfl) 64 #[.pointer (some ⟨w1.heap.size,0,none⟩)] trivial (enters_of Tryz.func64 (by kernel_rfl) rfl) _ _ (by unfold maxLen;omega) (by omega) _ hseq;change CallsIn _ _ Tryz.prog 45 _ _ _ at cS;have HG:=hZq hg;have HK:=hZq (And.intro kn km);have H3:=hZq hD3;clear hown hD2 hD3 hcan hseq kn km kl hg cN hsz hq
 gi_wp2_with (first
  | (gi_at_call 46;refine (cK _ _).mono ?_;rintro e w' ⟨rfl,rfl⟩)
  | (gi_at_call 45;refine cS.mono ?_;rintro e w' ⟨v,ss,rfl,hS,hrow,hnil,hb⟩))
 go_ret;have hN:ss.Nodup:=hS.nodup_iff.2 HK.out.1;obtain ⟨r1,r2⟩:=sort_ris hN;have hlen:(ss.mergeSort (fun x y=>decide (x<=y))).length=ss.length:=by simp
 rw [<- hlen] at hrow;obtain ⟨a,c,hv,hnm⟩:=NmT.of_owns hrow;subst hv;have hbl2:=((Below.refl _ w1).alloc (Nat.le_refl _) (.cells #[.map (some q)] 94)).trans (hb.mono (by simp));have hmem:∀ z,z∈ss.mergeSort (fun x y=>decide (x<=y))↔z∈gatO t:=fun z=>(r2 z).trans (hS.mem_iff.trans (HK.out.2 z))
 have hnm':NmT w' a (ss.mergeSort (fun x y=>decide (x<=y))).length c (ss.mergeSort (fun x y=>decide (x<=y))):=hnm;exact ⟨a,_,c,_,rfl,hnm',r1,hmem,fun z hz=>H3.out z ((hmem z).1 hz),gZq HG.out ⟨hbl2.os,hbl2.tape,hbl2.output,hbl2.size,fun i hi _=>hbl2.block i hi⟩⟩
end Go.Proofs.YtepcgckapoljpaaGreat
