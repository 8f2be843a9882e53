import Derived.Test.YtepcgckapoljpaaGreatQ41
set_option maxRecDepth 100000
set_option maxHeartbeats 8000000
namespace Go.Proofs.YtepcgckapoljpaaGreat
open Go.RowKit
theorem bjoined_any (n:Nat)(hT:TidyC n):JoinedC (n+1):=by
 intro b v x y so sn sc s w hx hy ox oy hs hv hJ lw1 lw2;obtain ⟨b',a,m,c,sa,sm,sc1,e,hb,hns,hss⟩:=hx;simp only [tyN,Value.iface.injEq,Value.pointer.injEq,Option.some.injEq,Addr.mk.injEq,true_and,and_true] at e;subst e;obtain ⟨d,a2,m2,c2,sa2,sm2,sc2,rfl,hd,hns2,hss2⟩:=hy;obtain ⟨x1,x2,x3,x4,x5⟩:=ox;obtain ⟨y1,y2,y3,y4,y5⟩:=oy;have l1:=hss.len;have l2:=hss2.len;have n1:=hns.len;have n2:=hns2.len;have f1:=seps_few x4;have f2:=seps_few y4;have sl1:=x3.len;have sl2:=y3.len;have p1:=List.length_pos_iff.2 x1;have k1:=cell_heap (i:=1) hb rfl;have k2:=cell_heap (i:=2) hb rfl;have k3:=cell_heap (i:=1) hd rfl;have k4:=cell_heap (i:=2) hd rfl;have hbl:=cell_lt k1;have hdl:=cell_lt k3
 have RO:Hid (RokT n ⟨(BnT.row (T:=NdT n) x).ns++(BnT.row (T:=NdT n) y).ns,(BnT.row (T:=NdT n) x).ss++([s]++(BnT.row (T:=NdT n) y).ss)⟩):=by
  refine ⟨fun k hk=>?_,sep_concat x3 y3 x1 y1 (fun z hz=>flat_ne n z (x2 z hz)) (fun z hz=>flat_ne n z (y2 z hz)) lw1 lw2,fun t ht=>?_⟩
  ·rcases List.mem_append.1 hk with hk | hk
   ·exact x2 k hk
   ·exact y2 k hk
  ·simp only [List.mem_append,List.mem_cons,List.not_mem_nil,or_false] at ht
   rcases ht with ht | rfl | ht
   ·exact x5 t ht
   ·exact hv
   ·exact y5 t ht
 have QN:=hZq (show NsT n w a m c (BnT.row (T:=NdT n) x).ns from hns);have QM:=hZq (show NsT n w a2 m2 c2 (BnT.row (T:=NdT n) y).ns from hns2);have QS:=hZq hss;have QR:=hZq hss2;have QB:=hZq hs;have HD:Hid (joinedT (n+1) x s y=(⟨0,tidyT (joinsT n) (joinedT n) 1 ⟨(BnT.row (T:=NdT n) x).ns++(BnT.row (T:=NdT n) y).ns,(BnT.row (T:=NdT n) x).ss++([s]++(BnT.row (T:=NdT n) y).ss)⟩ ((BnT.row (T:=NdT n) x).ns.length - 1)⟩:BnT (NdT n))):=rfl;rw [HD.out]
 have CN:Hid (∀ (W:World) (q:Nat),w.grownBy W none->W.heap[q]?=some (.cells #[.slice a m c,.slice a2 m2 c2] 75 (0,0))->Calls Tryz.prog 172 #[.slice (some ⟨q,0,none⟩) 2 2] W fun en w'=>(∃ a N c,en=.returned (.slice a N c)/\NsT n w' a N c ((BnT.row (T:=NdT n) x).ns++(BnT.row (T:=NdT n) y).ns))/\W.grownBy w' none):=fun W q hg hq =>
  catAt2_tn (InT n) (in_keptN _) hq (QN.out.kept (FrT.of hg)) (QM.out.kept (FrT.of hg)) (by rw [List.length_append];omega)
 have CS:Hid (∀ (W:World) (q:Nat),w.grownBy W none->(∃ p,W.heap[q]?=some (.cells #[.slice sa sm sc1,.slice (some ⟨p,0,none⟩) 1 1,.slice sa2 sm2 sc2] 51 (0,0))/\W.heap[p]?=some (.cells #[.slice so sn sc] 30 (0,0)))->Calls Tryz.prog 173 #[.slice (some ⟨q,0,none⟩) 3 3] W fun en w'=>(∃ a N c,en=.returned (.slice a N c)/\SsT w' a N c ((BnT.row (T:=NdT n) x).ss++([s]++(BnT.row (T:=NdT n) y).ss)))/\W.grownBy w' none):=fun W q hg ⟨p,hq,hp⟩ =>
  catAt3_ts IbT ib_keptN hq (QS.out.kept (FrT.of hg)) ⟨[[_]],es_one hp rfl,ElyT.one ⟨_,_,_,rfl,QB.out.kept (FrT.of hg)⟩⟩ (QR.out.kept (FrT.of hg)) (by rw [List.length_append,List.length_append];simp only [List.length_cons,List.length_nil];omega)
 have TT:=hZq (And.intro k1 (And.intro k2 (And.intro k3 k4)));have hta:=assertB
 show Calls Tryz.prog 159 _ _ _
 clear hb hd hns hss hns2 hss2 hs x2 x3 x5 y2 y3 y5 lw1 lw2 hJ QN QM QS QR QB k2 k3 k4;go_enter Tryz.func159,Tryz.ntmps159;have BD:=hZq (show m+m2<=5000/\1<=m by omega);clear f1 f2 sl1 sl2 l1 l2 x4 y4;go_upto_region 2 with fail
 go_cut [8] from 12 to 39 (fun s8 wx=>BoxR n w ⟨(BnT.row (T:=NdT n) x).ns++(BnT.row (T:=NdT n) y).ns,(BnT.row (T:=NdT n) x).ss++([s]++(BnT.row (T:=NdT n) y).ss)⟩ s8 wx)
 case first =>
  refine wp_region_noPanic ?_;refine bj_region (n:=n) (b:=b) (d:=d) (xs:=(BnT.row (T:=NdT n) x).ns) (ys:=(BnT.row (T:=NdT n) y).ns) (ss:=(BnT.row (T:=NdT n) x).ss) (ts:=(BnT.row (T:=NdT n) y).ss) (s:=s) ⟨⟨TT.out.1,TT.out.2.1,TT.out.2.2.1,TT.out.2.2.2⟩,CN.out,CS.out,(fun c f t v W h=>h),?_⟩;intro u8 u12 u13 u14 u15 u16 u17 u18 u19 u20 u21 u22 u23 u24 u25 u26 u27 u28 u29 u30 u31 u32 u33 u34 u35 u36 u37 u38 W hB;have HB:=hZq hB;clear hB;refine NoPanic.normal ?_
  go_wp2_with fail
  go_meet;exact HB.out
 case rest =>
  obtain ⟨G,a3,m3,c3,sa3,sm3,sc3,rfl,hG,hR,hg3⟩:=hcut;have g0:=cell_heap (i:=0) hG rfl;have g1:=cell_heap (i:=1) hG rfl;have kb:=hg3.cell k1 (by simp);have ln3:=hR.ns.len;have le3:m3=m+m2:=by rw [<- ln3,List.length_append];omega
  have HR:=hZq hR;have HG3:=hZq hg3;obtain ⟨bd1,bd2⟩:=BD.out;have em:(m:Int) - 1=((m - 1:Nat):Int):=by omega
  have TQ:=hZq (hT ⟨(BnT.row (T:=NdT n) x).ns++(BnT.row (T:=NdT n) y).ns,(BnT.row (T:=NdT n) x).ss++([s]++(BnT.row (T:=NdT n) y).ss)⟩ ((m - 1:Nat):Int) ((m - 1:Nat):Int) (m - 1) 1 (by rw [if_neg (by omega)]) (by omega) (by omega) (by omega) RO.out a3 m3 c3 sa3 sm3 sc3 wc HR.out (by omega));obtain ⟨j,hj⟩:∃ j,m - 1=j:=⟨_,rfl⟩;rw [hj] at TQ em;have wj:IntKind.i64.wrap (j:Int)=(j:Int):=by rw [IntKind.wrap_i64];omega
  have HJ:=hZq (show (BnT.row (T:=NdT n) x).ns.length - 1=j by omega);clear hR hg3 hG CN CS TT k1 le3 ln3
  go_wp2_with fail
  (with_reducible refine TQ.out.mono ?_)
  rintro en w7 ⟨⟨a7,m7,c7,sa7,sm7,sc7,rfl,hr7⟩,hg7⟩;have R7:=hZq hr7;have G7:=hZq (gZq HG3.out hg7);clear hr7 hg7;go_wp2;go_ret;rw [HJ.out];exact ⟨⟨_,rfl,node_branch 0 R7.out⟩,gZq G7.out (World.grownBy_alloc w7 _ none)⟩
theorem all_levels:∀ n,JoinsC n/\JoinedC n/\TidyC n
 | 0=>⟨joinsC0,joinedC0,fun r fr tq i0 cnt h1 h2 h3 h4 h5 a m c sa sm sc w h6 h7=>tidied_L joinsC0 (joinedAt_L joinedC0) r fr tq i0 cnt h1 h2 h3 h4 h5 a m c sa sm sc w h6 h7⟩
 | n+1=>by
  obtain ⟨_,_,i3⟩:=all_levels n;have j1:=bjoins_any n;have j2:=bjoined_any n i3;exact ⟨j1,j2,fun r fr tq i0 cnt h1 h2 h3 h4 h5 a m c sa sm sc w h6 h7=>tidied_B j1 (joinedAt_B j2) r fr tq i0 cnt h1 h2 h3 h4 h5 a m c sa sm sc w h6 h7⟩
end Go.Proofs.YtepcgckapoljpaaGreat
