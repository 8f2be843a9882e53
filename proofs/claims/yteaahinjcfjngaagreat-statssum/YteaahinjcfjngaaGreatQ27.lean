import Derived.Test.YteaahinjcfjngaaGreatQ26
import Derived.Deep.RegionHeld3
import Derived.Deep.CutBlock
import Derived.Deep.DeepCutAuto
import Derived.Deep.CutRange
import Derived.Deep.QuietTactic
import Derived.Laws.AppendOwnNone
import Derived.Laws.OwnMore
namespace Go.Proofs.YteaahinjcfjngaaGreat
open Go.RowKit
theorem flat_at {T:Type}{k:Nat}:∀ {es:List (List T)} {i f:Nat} {e:List T} {u:T},(∀ e∈es,e.length=k)->es[i]?=some e->e[f]?=some u->es.flatten[i*k+f]?=some u
 | [],i,f,e,u,_,h,_=>by simp at h
 | x::es,0,f,e,u,hl,h,hf=>by
  simp only [List.getElem?_cons_zero,Option.some.injEq] at h;subst h;have:=(List.getElem?_eq_some_iff.1 hf).1;rw [List.flatten_cons,Nat.zero_mul,Nat.zero_add,List.getElem?_append_left this];exact hf
 | x::es,i+1,f,e,u,hl,h,hf=>by
  simp only [List.getElem?_cons_succ] at h;have hx:=hl x List.mem_cons_self;have h1:(i+1)*k+f=x.length+(i*k+f):=by rw [hx,Nat.add_mul];omega
  rw [List.flatten_cons,h1,List.getElem?_append_right (by omega),Nat.add_sub_cancel_left];exact flat_at (fun e he=>hl e (List.mem_cons_of_mem _ he)) h hf
theorem ToM.sz {w:World}{Lb:Nat}:∀ {es:List (List Value)} {xs:List NoT} {lo hi:Nat},ToM w Lb es xs lo hi->∀ e∈es,e.length=6
 | [],[],_,_,_,e,h=>by cases h
 | x::es,_::ps,_,_,h,e,he=>by
  obtain ⟨m,_,_,⟨vp,_,ca,cn,cc,sa,sn,sc,ka,kn,kc,h3,_⟩,h4⟩:=h;rcases List.mem_cons.1 he with rfl | he
  ·rw [h3];rfl
  ·exact h4.sz e he
 | [],_::_,_,_,h,_,_=>h.elim
 | _::_,[],_,_,h,_,_=>h.elim
theorem own_bytT {w:World}{base n cap:Nat}{ao:Option Addr}{zs:List Int}(h:w.ownsRow base 5 1 (.slice ao n cap) n (zs.map (Value.int .u8))):Byt w ao n cap zs:=by
 have hl:=h.1;rw [List.length_map,Nat.mul_one] at hl;refine ⟨hl,fun e=>?_,fun ad e j u hu=>?_⟩
 ·rcases h.2 with ⟨h1,h0⟩ | ⟨g,cap',cur,h1,_⟩
  ·injection h1 with _ _ h3
   exact ⟨h0,h3⟩
  ·injection h1 with h2
   rw [e] at h2;cases h2
 ·rcases h.2 with ⟨h1,h0⟩ | ⟨g,cap',cur,h1,_⟩
  ·injection h1 with h2
   rw [e] at h2;cases h2
  ·have h1':=h1
   injection h1 with h2
   rw [e] at h2;have h3:=Option.some.inj h2;rw [h3];exact h.cells (by rw [h1'];rfl) j u hu
end Go.Proofs.YteaahinjcfjngaaGreat
