import Derived.Test.YteaahinjcfjngaaGreatQ43
import Derived.Test.YteaahinjcfjngaaGreatQ21
set_option maxRecDepth 100000
set_option maxHeartbeats 16000000
namespace Go.Proofs.YteaahinjcfjngaaGreat
open Go.RowKit
theorem BtyT.otherB {w w':World}{ao:Option Addr}{n c d:Nat}{s:List Int}{u:TypeId}(hb:BtyT w ao n c s)(hg:w.grownBy w' (some d))(hd:TgT w d u)(hne:5≠u):BtyT w' ao n c s:=by
 refine ⟨⟨hb.b.len,hb.b.nil,fun ad had j u hu=>?_⟩,fun ad h1 h2=>?_,hb.l1,hb.l2⟩
 ·have hj:j<s.length:=by have:=(List.getElem?_eq_some_iff.1 hu).1;simpa using this
  have hl:=hb.b.len;have h1:=hb.b.cells ad had j u hu;have ht:=hb.t ad had (by omega);have hbk:(ad.add j).block=ad.block:=by unfold Addr.add;split <;> rfl
  have hs:w'.heap[(ad.add j).block]?=w.heap[(ad.add j).block]?:=by
   rw [hbk];obtain ⟨_,_,q⟩:=id ht;exact hg.block _ (Array.getElem?_eq_some_iff.1 q).1 (fun e=>tg_ne ht hd hne (Option.some.inj e))
  exact (World.cell?_of_block hs).trans h1
 ·have ht:=hb.t ad h1 h2
  obtain ⟨cur,z,q⟩:=id ht;exact ⟨cur,z,(hg.block _ (Array.getElem?_eq_some_iff.1 q).1 (fun e=>tg_ne ht hd hne (Option.some.inj e))).trans q⟩
theorem BtyT.owned {w:World}{base n c:Nat}{a:Option Addr}{zs:List Int}(h:w.ownsRow base 5 1 (.slice a n c) n (zs.map (Value.int .u8))):BtyT w a n c zs:=by
 rcases id h.2 with ⟨h0,h1⟩ | ⟨g,cap,cur,hv,_⟩
 ·injection h0 with e1 e2 e3
  subst e1 e3 h1;have:zs=[]:=by have:=h.1;simpa using this
  subst this;exact BtyT.nil w
 ·injection hv with e1 e2 e3
  subst e1;exact BtyT.of_owns h
def Po7 (wc:World)(P m:Nat)(es:List (List Value))(kn vn:Nat)(kz vz:List Int)(wx:World):Prop:=∃ a5 c5 a6 c6,FlT wx P m 3 106 (es++[[.slice a5 kn c5,.slice a6 vn c6,.slice none 0 0]])/\BtyT wx a5 kn c5 kz/\BtyT wx a6 vn c6 vz/\wc.grownBy wx (some P)
theorem po7 {y0 y1 y2 y3 y4 y5 y9 y10 y11 y12 y13 y14 y15 y16 y17 y18 y19 y20 y21 y22 y23 y24 y25 y26 y27 y28 y29 y30 y31 y32 y33 y34 y35 y36 y37 y38 y39 y40 y41 y42 y43 y44 y45 y46 y47 y48 y49 y50 y51 y52 y53 y54 y55 y56 y57 y58 y59 y60 y61 y62 y63 y64 y65 y66 y67 y68 y69 y70 y71 y72 y73 y74 y75 y76 y77 y78 y79 y80 y81 y82 y83 y84 y85 y86 y87 y88 y89 y90 y91:Value}{wc:World}{P m k D:Nat}{es:List (List Value)}{kz vz:List Int}{ka va:Option Addr}{kn kc vn vc:Nat}(HT:Hid (FlT wc P m 3 106 es))(he:es.length=k)(hkm:k<m)(H1:Hid (BtU wc ka kn kc kz))(H2:Hid (BtU wc va vn vc vz))(d0:wc.cell? ⟨D,0,none⟩=some (.slice ka kn kc))(d1:wc.cell? ⟨D,1,none⟩=some (.slice va vn vc))(hk9:kn<=140737488355328)(hv9:vn<=140737488355328)(hD:TgT wc D 64){J:Act->World->Prop}{Q':Exit->Act->World->Prop}
  (hK:∀ (v34 v35 v36 v37 v38 v39 v40 v41 v42 v43:Value) (wx:World),Po7 wc P m es kn vn kz vz wx->J ⟨#[y0,y1,y2,y3,y4,y5,.slice (some ⟨P,0,none⟩) m m,.int .i64 (k:Int),.pointer (some ⟨D,0,none⟩),y9,y10,y11,y12,y13,y14,y15,y16,y17,y18,y19,y20,y21,y22,y23,y24,y25,y26,y27,y28,y29,y30,y31,y32,y33,v34,v35,v36,v37,v38,v39,v40,v41,v42,v43,y44,y45,y46,y47,y48,y49,y50,y51,y52,y53,y54,y55,y56,y57,y58,y59,y60,y61,y62,y63,y64,y65,y66,y67,y68,y69,y70,y71,y72,y73,y74,y75,y76,y77,y78,y79,y80,y81,y82,y83,y84,y85,y86,y87,y88,y89,y90,y91],[]⟩ wx) :
  Code.wp Tryz.prog (Go.Code.region 7 #[⟨some 34,.move (.tmp 6),107, "build.go:79",#[],none⟩,⟨some 35,.move (.tmp 7),3, "build.go:79",#[],none⟩,⟨some 36,.fieldAddr 64 (.tmp 8) 0,0, "build.go:79",#[],none⟩,⟨some 37,.load 62 (.tmp 36),62, "build.go:79",#[⟨2,.data⟩],none⟩,⟨some 38,.call { callee:=.value (.func 56),args:=#[.tmp 37],argTypes:=#[62] },62, "build.go:79",#[⟨3,.data⟩],none⟩,⟨some 39,.fieldAddr 64 (.tmp 8) 1,0, "build.go:79",#[],none⟩,⟨some 40,.load 62 (.tmp 39),62, "build.go:79",#[⟨5,.data⟩],none⟩,⟨some 41,.call { callee:=.value (.func 56),args:=#[.tmp 40],argTypes:=#[62] },62, "build.go:79",#[⟨6,.data⟩,⟨4,.chain⟩],none⟩,⟨some 42,.build 106 #[(0,.tmp 38),(1,.tmp 41)],106, "build.go:79",#[⟨4,.data⟩,⟨7,.data⟩],none⟩,⟨some 43,.indexAddr 107 (.tmp 34) (.tmp 35),0, "build.go:79",#[⟨0,.data⟩,⟨1,.data⟩,⟨0,.phase⟩,⟨1,.phase⟩,⟨2,.phase⟩,⟨3,.phase⟩,⟨4,.phase⟩,⟨5,.phase⟩,⟨6,.phase⟩,⟨7,.phase⟩,⟨8,.phase⟩],none⟩,⟨none,.store 106 (.tmp 43) (.tmp 42),0, "build.go:79",#[⟨9,.data⟩,⟨8,.data⟩,⟨7,.chain⟩,⟨0,.phase⟩,⟨1,.phase⟩,⟨2,.phase⟩,⟨3,.phase⟩,⟨4,.phase⟩,⟨5,.phase⟩,⟨6,.phase⟩,⟨7,.phase⟩,⟨8,.phase⟩],none⟩] true) (Exit.then J Q') ⟨#[y0,y1,y2,y3,y4,y5,.slice (some ⟨P,0,none⟩) m m,.int .i64 (k:Int),.pointer (some ⟨D,0,none⟩),y9,y10,y11,y12,y13,y14,y15,y16,y17,y18,y19,y20,y21,y22,y23,y24,y25,y26,y27,y28,y29,y30,y31,y32,y33,y34,y35,y36,y37,y38,y39,y40,y41,y42,y43,y44,y45,y46,y47,y48,y49,y50,y51,y52,y53,y54,y55,y56,y57,y58,y59,y60,y61,y62,y63,y64,y65,y66,y67,y68,y69,y70,y71,y72,y73,y74,y75,y76,y77,y78,y79,y80,y81,y82,y83,y84,y85,y86,y87,y88,y89,y90,y91],[]⟩ wc:=by
 have HK:=hZq hK;clear hK
 dsimp only
 have nD:D≠P:=tg_ne hD HT.out.tg (by decide);have hfp:=HT.out;have i0:(0:Int)<=(k:Int):=by omega
 have i1:(k:Int)<(m:Int):=by omega
 refine wp_region_noPanic ?_
 go_region_held3 (fun w'=>w'.cell? ⟨D,0,none⟩=some (.slice ka kn kc)/\w'.cell? ⟨D,1,none⟩=some (.slice va vn vc)) (first | exact ⟨d0,d1⟩ | exact T5.out | exact T6.out | exact ⟨cell_set1 (cell_set2 T6.out.1 nD) nD,cell_set1 (cell_set2 T6.out.2 nD) nD⟩ | go_keep)
  (first
   | (go_at_call_of 56 (Value.slice ka kn kc);refine (clone_own ka kn kc kz _ (H1.out.b.keptN ((Qt.refl wc).drew.grown none)) hk9).mono ?_;rintro en w5 ⟨a5,c5,rfl,ho5,hg5⟩;have G5:=hZq (gZq ((Qt.refl wc).drew.grown none) hg5);have O5:=hZq ho5;have T5:=hZq (show w5.cell? ⟨D,0,none⟩=some (.slice ka kn kc)/\w5.cell? ⟨D,1,none⟩=some (.slice va vn vc) from ⟨G5.out.cell d0 (by simp),G5.out.cell d1 (by simp)⟩);clear hg5 ho5)
   | (go_at_call_of 56 (Value.slice va vn vc);refine (clone_own va vn vc vz _ (H2.out.b.keptN G5.out) hv9).mono ?_;rintro en w6 ⟨a6,c6,rfl,ho6,hg6⟩;have G6:=hZq (gZq G5.out hg6);have O6:=hZq ho6;have O56:=hZq (own_keptF O5.out (by decide) (FrT.of hg6));have T6:=hZq (show w6.cell? ⟨D,0,none⟩=some (.slice ka kn kc)/\w6.cell? ⟨D,1,none⟩=some (.slice va vn vc) from ⟨G6.out.cell d0 (by simp),G6.out.cell d1 (by simp)⟩);obtain ⟨⟨q0,f0⟩,z0⟩:=(hfp.keptN G6.out).cell (j:=k*3) (by omega);obtain ⟨⟨q1,f1⟩,z1⟩:=(hfp.keptN G6.out).cell (j:=k*3+1) (by omega);obtain ⟨⟨q2,f2⟩,z2⟩:=(hfp.keptN G6.out).cell (j:=k*3+2) (by omega);clear hg6 ho6))
 all_goals
  refine NoPanic.normal ?_
  go_wp2_with fail
  have h6:=hfp.keptN G6.out;have tP:=h6.tg;have hnx:=h6.next (by omega) [.slice a5 kn c5,.slice a6 vn c6,.slice none 0 0] rfl (by simp [Value.oneCell'])
  rw [he] at hnx;have hs:=setL_grown (g:=P) [.slice a5 kn c5,.slice a6 vn c6,.slice none 0 0] w6 (k*3);refine HK.out _ _ _ _ _ _ _ _ _ _ _ ?_;exact ⟨_,_,_,_,hnx,(BtyT.owned O56.out).otherB hs tP (by decide),(BtyT.owned O6.out).otherB hs tP (by decide),gZq (grown_any G6.out) hs⟩
end Go.Proofs.YteaahinjcfjngaaGreat
