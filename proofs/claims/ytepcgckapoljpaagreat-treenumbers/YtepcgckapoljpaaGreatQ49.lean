import Derived.Test.YtepcgckapoljpaaGreatQ48
import Derived.Test.YtepcgckapoljpaaGreatQ47
import Derived.Deep.CutBlock
set_option maxRecDepth 100000
set_option maxHeartbeats 16000000
namespace Go.Proofs.YtepcgckapoljpaaGreat
open Go.RowKit
def LbW (S:List Int)(F:Nat)(w:World)(e:Value):Prop:=∃ a n c l,e=.slice a n c/\NmT w a n c l/\(l.length≠F∨tkL S l=false)/\∀ z∈l,-9223372036854775808<=z/\z<=9223372036854775807
theorem LbW.keptX {S:List Int}{F:Nat}{w w':World}{e:Value}(h:LbW S F w e)(hg:FrX (fun x=>x==52) w w'):LbW S F w' e:=by
 obtain ⟨a,n,c,l,h1,h2,h3,h4⟩:=h;exact ⟨a,n,c,l,h1,EsT.keptX h2 (by decide) hg,h3,h4⟩
theorem LbW.kept {S:List Int}{F:Nat}{w w':World}{e:Value}(h:LbW S F w e)(hg:w.grownBy w' none):LbW S F w' e:=by
 obtain ⟨a,n,c,l,h1,h2,h3,h4⟩:=h;exact ⟨a,n,c,l,h1,EsT.kept h2 (by decide) (FrT.of hg),h3,h4⟩
structure RfI (S:List Int)(F M:Nat)(w wx:World)(v:Value):Prop where
 ex:∃ m c a es,v=.slice a m c/\wx.ownsRow w.heap.size 52 1 v m es/\(∀ e∈es,LbW S F wx e)/\m<=M
 gr:w.grownBy wx none
theorem rfi_app {S:List Int}{F M m k:Nat}{w wx w':World}{v v':Value}{es news:List Value}(o:Obj)(h0:wx.ownsRow w.heap.size 52 1 v m es)(hb:∀ e∈es,LbW S F wx e)(hgr:w.grownBy wx none)(hn:∀ e∈news,LbW S F wx e)
  (ho:w'.ownsRow w.heap.size 52 1 v' (m+k) (es++news)) (hg:(wx.alloc o).grownBy w' v.ownBlock) (hm:m+k<=M):RfI S F M w w' v':=by
 obtain ⟨a,c,e⟩:=own_shape10 ho;have fx:=frx_app h0 hg;refine ⟨⟨m+k,c,a,es++news,e,ho,fun x hx=>?_,hm⟩,grown_app10 hgr h0 (Nat.le_refl _) hg⟩;rcases List.mem_append.1 hx with hx | hx
 ·exact (hb x hx).keptX fx
 ·exact (hn x hx).keptX fx
theorem cells_lit10 (w:World)(t:TypeId)(L:List Value):∀ j u,L[j]?=some u->(w.alloc (.cells L.toArray t)).cell? ((⟨w.heap.size,0,none⟩:Addr).add j)=some u:=by
 intro j u hu;rw [Addr.add_lit,Nat.zero_add,cell_of_row _ w.heap.size _ _ _ (0,0) (heap_alloc_new w _)];simpa using hu
theorem lb_own {S:List Int}{F:Nat}{w:World}{base n:Nat}{v:Value}{l:List Int}(h:w.ownsRow base 3 1 v n (l.map (Value.int .i64)))(hb:l.length≠F∨tkL S l=false)(hz:∀ z∈l,-9223372036854775808<=z/\z<=9223372036854775807):LbW S F w v:=by
 obtain ⟨a,c,e,k⟩:=NmT.of_owns h;exact ⟨a,n,c,l,e,k,hb,hz⟩
theorem set_bd {l:List Int}{i:Nat}{x:Int}(hz:∀ z∈l,-9223372036854775808<=z/\z<=9223372036854775807)(hx:-9223372036854775808<=x/\x<=9223372036854775807):∀ z∈l.set i x,-9223372036854775808<=z/\z<=9223372036854775807:=fun z hm=>by
 rcases List.mem_or_eq_of_mem_set hm with h | h
 ·exact hz z h
 ·rw [h]
  exact hx
theorem own_some10 {w:World}{base n k:Nat}{t:TypeId}{v:Value}{xs:List Value}(h:w.ownsRow base t k v n xs)(hn:0<n):∃ g c,v=.slice (some ⟨g,0,none⟩) n c:=by
 rcases h.2 with ⟨_,h0⟩ | ⟨g,cap,cur,hv,_⟩
 ·omega
 ·exact ⟨g,cap,hv⟩
theorem refused10 (t:Option TrT)(q q2:Nat)(ua:Option Addr)(un uc:Nat)(zs:List Int)(w:World)(ht:TreeT w q t)(sd:SdT t)(hf:(flatO t).length<=2000)(hl:zs.length=frO t)(hk:tkL (gatO t) zs=true)(hu:TreeT w q2 (numO t zs))(su:SdT (numO t zs))(hz:NmT w ua un uc zs) :
  Calls Tryz.prog 31 #[.pointer (some ⟨q,0,none⟩),.pointer (some ⟨q2,0,none⟩),.slice ua un uc] w fun en w'=>en=.returned (.bool true)/\w.grownBy w' none:=by
 obtain ⟨i1,hi1,hy0,hy1,hy2⟩:=info_parts info_i10;obtain ⟨ti,hti,tz0,tz1,tz2⟩:=info_parts info_ints10;have hlen:=hz.num;have hpg:=sd.pages hf;have hun:un<=144000:=by omega
 have hzb:∀ z∈zs,-9223372036854775808<=z/\z<=9223372036854775807:=fun z hm=>by have:=tk_q hk z hm;omega
 have HT:=hZq ht;have HU:=hZq hu;have SD:=hZq sd;have SU:=hZq su;have HF:=hZq hf;have HL:=hZq hl;have HK:=hZq hk;have HZ:=hZq hz;have HZB:=hZq hzb;have HLN:=hZq hlen;have PG:=hZq hpg;have TZ:=hZq (tz_of sd hf);have IC:=hZq (fun (W:World) (h:w.grownBy W none)=>copyInts10 ua un uc zs W ((NmT.zr hz).kept h) hlen (by omega));have hcap:un<=uc/\uc<=9223372036854775807:=⟨hz.cap,hz.c2⟩;obtain ⟨hcap1,hcap2⟩:=hcap;clear ht hu sd su hf hl hk hz hzb hlen hpg;go_enter Tryz.func31,Tryz.ntmps31
 go_wp2_with fail
 refine (IC.out w (World.grownBy.refl _ _)).mono ?_;rintro en w1 ⟨⟨v1,rfl,ho1⟩,hg1⟩;obtain ⟨a1,c1,rfl⟩:=own_shape10 ho1;have O1:=hZq ho1;have G1:=hZq hg1;clear ho1 hg1
 go_wp2_with (at_builtin;refine wpList_append_own _ rfl _ _ 52 rfl w.heap.size 3 i1 (.int .i64 0) 1 8 Tryz.underlying52 hi1 hy0 hy1 hy2 rfl (by decide) _ un (zs.map (Value.int .i64)) rfl (O1.out.alloc _) ⟨w1.heap.size,0,none⟩ 1 1 [.int .i64 3] rfl rfl (cell_one10 _ _ _) (by intro u hu;simp at hu;subst hu;rfl) (by unfold maxLen;omega) (by omega) (by have:=G1.out.size;simp;omega) ?_)
 intro v2 w2 ho2 hg2 _;obtain ⟨a2,c2,rfl⟩:=own_shape10 ho2;have G2:=hZq (grown_app10 G1.out O1.out (Nat.le_refl _) hg2)
 have L2:Hid (LbW (gatO t) un w2 (.slice a2 (un+1) c2)):=lb_own (l:=zs++[3]) (by rw [List.map_append];exact ho2) (.inl (by have:=HLN.out;simp;omega)) (fun z hm=>by
  rcases List.mem_append.1 hm with hm | hm
  ·exact HZB.out z hm
  ·rw [List.mem_singleton.1 hm]
   omega)
 clear ho2 hg2 O1 G1
 have R3:Hid (RfI (gatO t) un 1 w (w2.alloc (.cells #[.slice a2 (un+1) c2] 52)) (.slice (some ⟨w2.heap.size,0,none⟩) 1 1)):=⟨⟨1,1,some ⟨w2.heap.size,0,none⟩,[.slice a2 (un+1) c2],rfl,World.ownsRow_lit w2 #[.slice a2 (un+1) c2] 1 G2.out.size (by decide) rfl,fun e he=>by
  rw [List.mem_singleton.1 he];exact L2.out.kept (World.grownBy_alloc w2 _ none),Nat.le_refl 1⟩,gZq G2.out (World.grownBy_alloc w2 _ none)⟩
 clear L2 G2;go_upto_region 3 with fail
 generalize w2.alloc (.cells #[.slice a2 (un+1) c2] 52)=w3 at *;obtain ⟨⟨m3,c3,a3,es3,e3,o3,l3,b3⟩,g3⟩:=R3.out;rw [e3] at o3 ⊢;have O3:=hZq o3;have L3:=hZq l3;have G3:=hZq g3;clear o3 l3 g3 R3 e3
 go_upto_if 29 with fail
 go_cut [8,9,10] from 29 to 48 (fun s8 _ _ wx=>RfI (gatO t) un 4 w wx s8)
 case first =>
  by_cases h0:un=0
  ·subst h0
   go_wp2_with fail
   go_meet;exact ⟨⟨m3,c3,a3,es3,rfl,O3.out,L3.out,by omega⟩,G3.out⟩
  ·obtain ⟨K,hK⟩:∃ K,un=K+1:=⟨un - 1,by omega⟩
   have i0:(0:Int)<(un:Int):=by omega
   have i0n:0<un:=by omega
   have i1:(un:Int) - 1=(K:Int):=by omega
   have HK1:=hZq hK;clear hK
   go_wp2_with fail
   refine (IC.out w3 G3.out).mono ?_;rintro en w4 ⟨⟨v4,rfl,ho4⟩,hg4⟩;obtain ⟨g4,c4,rfl⟩:=own_some10 ho4 (by have:=HK1.out;omega);have O4:=hZq ho4;have G4:=hZq hg4;have hg4b:w3.heap.size<=g4:=(own_lt10 ho4 rfl).1;have z4:=ho4.frozenAt K;have y4:=ho4.cellAt K (by have:=HK1.out;omega);rw [List.getElem?_map,List.getElem?_eq_getElem (by have:=HLN.out;have:=HK1.out;omega)] at y4;have G5:=hZq (grown_new hg4 (grown_cell w4 g4 K (.int .i64 1)) hg4b);have L5:Hid (LbW (gatO t) un (w4.setCell ⟨g4,K,none⟩ (.int .i64 1)) (.slice (some ⟨g4,0,none⟩) un c4)):=lb_own (l:=zs.set K 1) (by have:=(ho4.stored K (.int .i64 1)).1;rw [List.map_set];exact this) (.inr (by have:=tk_low (zs:=zs) (S:=gatO t) (by have:=HLN.out;have:=HK1.out;omega);rw [show zs.length - 1=K by have:=HLN.out;have:=HK1.out;omega] at this;exact this)) (set_bd HZB.out (by omega));have k0:(0:Int)<=(K:Int):=by omega
   have k1:(K:Int)<(un:Int):=by have:=HK1.out;omega
   clear ho4 hg4 hg4b;go_upto_region 6 with fail
   generalize w4.setCell ⟨g4,K,none⟩ (.int .i64 1)=w5 at *;clear z4 y4
   go_wp2_with fail
   refine (IC.out w5 (gZq G3.out G5.out)).mono ?_;rintro en w6 ⟨⟨v6,rfl,ho6⟩,hg6⟩;obtain ⟨g6,c6,rfl⟩:=own_some10 ho6 (by have:=HK1.out;omega);have hg6b:w5.heap.size<=g6:=(own_lt10 ho6 rfl).1;have z6:=ho6.frozenAt 0;have y6:=ho6.cellAt 0 (by have:=HK1.out;omega);rw [List.getElem?_map,List.getElem?_eq_getElem (by have:=HLN.out;have:=HK1.out;omega)] at y6;have GN:=hZq (grown_new hg6 (grown_cell w6 g6 0 (.int .i64 524287)) hg6b);have L7:Hid (LbW (gatO t) un (w6.setCell ⟨g6,0,none⟩ (.int .i64 524287)) (.slice (some ⟨g6,0,none⟩) un c6)):=lb_own (l:=zs.set 0 524287) (by have:=(ho6.stored 0 (.int .i64 524287)).1;rw [List.map_set];exact this) (.inr (tk_high (by have:=HLN.out;have:=HK1.out;omega))) (set_bd HZB.out (by omega));clear ho6 hg6 hg6b;go_upto_region 8 with fail
   generalize w6.setCell ⟨g6,0,none⟩ (.int .i64 524287)=w7 at *;clear z6 y6;obtain ⟨nb,noff,hua⟩:=EsT.where HZ.out (by have:=HK1.out;omega);have HUA:=hZq hua;clear hua;have G7:=hZq (gZq (gZq G3.out G5.out) GN.out);have O7:=hZq (O3.out.kept (gZq G5.out GN.out) (Classical.em _))
   have L8:Hid (LbW (gatO t) un w7 (.slice ua K uc)):=⟨_,_,_,zs.take K,rfl,by
    have h:=EsT.take (EsT.kept HZ.out (by decide) (FrT.of G7.out)) (i:=K) (by have:=HK1.out;omega);rw [<- List.map_take] at h;exact h,.inl (by rw [List.length_take];have:=HLN.out;have:=HK1.out;omega),fun z hz=>HZB.out z (List.mem_of_mem_take hz)⟩
   have k2:(K:Int)<=(uc:Int):=by have:=HK1.out;omega
   have k3:¬ (un:Int)<(K:Int):=by have:=HK1.out;omega
   go_wp2_with (at_builtin;refine wpList_append_own _ rfl _ _ 50 rfl w.heap.size 52 ti (.slice none 0 0) 1 24 Tryz.underlying50 hti tz0 tz1 tz2 rfl (by decide) _ m3 es3 rfl (O7.out.alloc _) ⟨w7.heap.size,0,none⟩ 3 3 [.slice ua K uc,.slice (some ⟨g4,0,none⟩) un c4,.slice (some ⟨g6,0,none⟩) un c6] rfl rfl (cells_lit10 _ _ _) (by intro u hu;simp at hu;rcases hu with rfl | rfl | rfl <;> rfl) (by unfold maxLen;omega) (by omega) (by have:=G7.out.size;simp;omega) ?_)
   intro v9 w9 ho9 hg9 _
   have R9:=hZq (rfi_app (S:=gatO t) (F:=un) (M:=4) _ O7.out (fun e he=>(L3.out e he).kept (gZq G5.out GN.out)) G7.out (fun e he=>by
    simp only [List.mem_cons,List.not_mem_nil,or_false] at he;rcases he with rfl | rfl | rfl
    ·exact L8.out
    ·exact L5.out.kept GN.out
    ·exact L7.out) ho9 hg9 (by omega))
   clear ho9 hg9
   go_wp2_with fail
   go_meet;exact R9.out
 case rest =>
  obtain ⟨⟨m4,c4,a4,es4,rfl,o4,l4,b4⟩,g4⟩:=hcut;have O4:=hZq o4;have L4:=hZq l4;have G4:=hZq g4;clear o4 l4 g4 O3 L3 G3
  go_upto_if 50 with fail
  go_cut [8,11] from 50 to 63 (fun s8 _ wx=>RfI (gatO t) un 5 w wx s8)
  case first =>
   by_cases h0:1<un
   ·obtain ⟨K,hK⟩:∃ K,un=K+1:=⟨un - 1,by omega⟩
    have i0:(1:Int)<(un:Int):=by omega
    have i1:(un:Int) - 1=(K:Int):=by omega
    have HK1:=hZq hK;have H01:=hZq h0;clear hK;obtain ⟨z0,hz0⟩:∃ z,zs[0]?=some z:=⟨_,List.getElem?_eq_getElem (by have:=HLN.out;omega)⟩;have HZ0:=hZq hz0
    go_wp2_with fail
    refine (IC.out wc G4.out).mono ?_;rintro en w5 ⟨⟨v5,rfl,ho5⟩,hg5⟩;obtain ⟨g5,c5,rfl⟩:=own_some10 ho5 (by have:=HK1.out;omega);have hg5b:wc.heap.size<=g5:=(own_lt10 ho5 rfl).1;have z5:=ho5.frozenAt K;have y5:=ho5.cellAt K (by have:=HK1.out;omega);rw [List.getElem?_map,List.getElem?_eq_getElem (by have:=HLN.out;have:=HK1.out;omega)] at y5;have x5:=ho5.cellAt 0 (by have:=HK1.out;omega);rw [List.getElem?_map,hz0] at x5;have G6:=hZq (grown_new hg5 (grown_cell w5 g5 K (.int .i64 z0)) hg5b);have L6:Hid (LbW (gatO t) un (w5.setCell ⟨g5,K,none⟩ (.int .i64 z0)) (.slice (some ⟨g5,0,none⟩) un c5)):=lb_own (l:=zs.set K z0) (by have:=(ho5.stored K (.int .i64 z0)).1;rw [List.map_set];exact this) (.inr (by have:=tk_twice (zs:=zs) (S:=gatO t) (by have:=HLN.out;have:=H01.out;omega) HZ0.out;rw [show zs.length - 1=K by have:=HLN.out;have:=HK1.out;omega] at this;exact this)) (set_bd HZB.out (HZB.out z0 (List.mem_of_getElem? HZ0.out)));have k0:(0:Int)<=(K:Int):=by omega
    have k1:(K:Int)<(un:Int):=by have:=HK1.out;omega
    have k2:(0:Int)<(un:Int):=by omega
    clear ho5 hg5 hg5b hz0;go_upto_region 12 with fail
    generalize w5.setCell ⟨g5,K,none⟩ (.int .i64 z0)=w6 at *;clear z5 y5 x5;have G7:=hZq (gZq G4.out G6.out);have O7:=hZq (O4.out.kept G6.out (Classical.em _))
    go_wp2_with (at_builtin;refine wpList_append_own _ rfl _ _ 50 rfl w.heap.size 52 ti (.slice none 0 0) 1 24 Tryz.underlying50 hti tz0 tz1 tz2 rfl (by decide) _ m4 es4 rfl (O7.out.alloc _) ⟨w6.heap.size,0,none⟩ 1 1 [.slice (some ⟨g5,0,none⟩) un c5] rfl rfl (cells_lit10 _ _ _) (by intro u hu;simp at hu;subst hu;rfl) (by unfold maxLen;omega) (by omega) (by have:=G7.out.size;simp;omega) ?_)
    intro v9 w9 ho9 hg9 _
    have R9:=hZq (rfi_app (S:=gatO t) (F:=un) (M:=5) _ O7.out (fun e he=>(L4.out e he).kept G6.out) G7.out (fun e he=>by
     rw [List.mem_singleton.1 he];exact L6.out) ho9 hg9 (by omega))
    clear ho9 hg9
    go_wp2_with fail
    go_meet;exact R9.out
   ·have i0:¬ (1:Int)<(un:Int):=by omega
    go_wp2_with fail
    go_meet;exact ⟨⟨m4,c4,a4,es4,rfl,O4.out,L4.out,by omega⟩,G4.out⟩
  case rest =>
   obtain ⟨⟨m5,c5,a5,es5,rfl,o5,l5,b5⟩,g5⟩:=hcut;have O5:=hZq o5;have L5:=hZq l5;have G5:=hZq g5;clear o5 l5 g5 O4 L4 G4;have NC:=hZq (numbersL_any t q wc (HT.out.kept (FrT.of G5.out)) SD.out.nq)
   go_wp2_with fail
   refine NC.out.mono ?_;rintro en w6 ⟨na,nn,nc,has,rfl,hn6,hr6,hm6,hv6,hg6⟩;have N6:=hZq hn6;have R6:=hZq hr6;have M6:=hZq hm6;have V6:=hZq hv6;have G6:=hZq (gZq G5.out hg6);have O6:=hZq (O5.out.kept hg6 (Classical.em _));have L6:Hid (∀ e∈es5,LbW (gatO t) un w6 e):=fun e he=>(L5.out e he).kept hg6
   have HNN:=hZq hn6.num;clear hn6 hr6 hm6 hv6 hg6 O5 L5 G5 NC
   have hnb:nn<=144000:=by
    have h1:=nodup_le R6.out.nodup (G:=gatO t) (fun z hz=>(M6.out z).1 hz);have h2:=PG.out;have h3:=HNN.out;omega
   by_cases h0:un=0
   ·have i0:¬ (0:Int)<(un:Int):=by omega
    have i0n:¬ 0<un:=by omega
    go_wp2_with fail
    go_upto_region 18 with fail
    have NT:=hZq (nodes_any t q w6 (HT.out.kept (FrT.of G6.out)) SD.out.ok SD.out.chk (by have:=TZ.out.len;omega) (by have:=TZ.out.high;omega));obtain ⟨N,hN⟩:∃ N,(tellO t).length=N:=⟨_,rfl⟩;rw [hN] at NT;have HN:=hZq hN;have hNb:N<=14000:=by have:=TZ.out.len;omega
    clear hN
    go_wp2_with fail
    refine NT.out.mono ?_;rintro en w8 ⟨v8,es8,rfl,ho8,ht8,hg8⟩;obtain ⟨va8,vc8,rfl⟩:=own_shape10 ho8;have W8:=hZq (nl_of ho8 ht8);have GX:=hZq (gZq G6.out hg8);have OX:=hZq (O6.out.kept hg8 (Classical.em _));have LX:Hid (∀ e∈es5,LbW (gatO t) un w8 e):=fun e he=>(L6.out e he).kept hg8
    have HMX:Hid (es5.length=m5):=by
     have:=OX.out.1
     show es5.length=m5
     simpa using this
    clear ho8 ht8 hg8 NT
    go_wp2_with fail
    go_loopw [15,16,17,18] (fun s15 _ _ _ wr=>∃ i:Nat,i<=m5/\s15=.int .i64 (i:Nat)/\w8.grownBy wr none) (fun s15 _ _ _ _=>m5 - (intOf s15).toNat)
    case atStart=>exact ⟨0,Nat.zero_le _,rfl,World.grownBy.refl _ _⟩
    case round =>
     obtain ⟨i,hi,rfl,hg⟩:=hrel;have HG:=hZq hg;clear hg
     by_cases hlt:i<m5
     ·have j0:(0:Int)<=(i:Int):=by omega
      have j1:(i:Int)<(m5:Int):=by omega
      obtain ⟨e,he⟩:∃ e,es5[i]?=some e:=⟨_,List.getElem?_eq_getElem (by have:=HMX.out;omega)⟩;obtain ⟨xa,xn,xc,l,rfl,hl1,hl2,hl3⟩:=LX.out e (List.mem_of_getElem? he);obtain ⟨gx,gc,hax⟩:=own_some10 OX.out (by omega);injection hax with hax1 hax2 hax3
      subst hax1 hax3;have hcx:=OX.out.cellAt i (by omega);rw [he] at hcx;have cx:=keep1 hcx HG.out;have NB:=hZq (numbered_any t q xa xn xc l wr (HT.out.kept (FrT.of (gZq GX.out HG.out))) SD.out.ok SD.out.nq (by have:=PG.out;omega) (EsT.kept hl1 (by decide) (FrT.of HG.out)) hl3);have HB:=hZq hl2;clear he hl1 hl2 hl3 hcx
      go_wp2_with fail
      refine NB.out.mono ?_;rintro en w10 ⟨hen,hg10⟩;rw [if_neg (by rintro ⟨h1,h2⟩;rcases HB.out with h | h;exact h (by rw [h1,<- HL.out,HLN.out]);rw [h] at h2;cases h2)] at hen;subst hen;have H10:=hZq (gZq HG.out hg10);clear hg10 NB;have N2:=hZq (nodes_any t q w10 (HT.out.kept (FrT.of (gZq GX.out H10.out))) SD.out.ok SD.out.chk (by have:=TZ.out.len;omega) (by have:=TZ.out.high;omega));rw [HN.out] at N2
      go_wp2_with (first | (go_at_call 27;refine (num10 _ _).mono ?_;rintro en wz ⟨rfl,hwz⟩;rw [hwz];clear hwz) | fail)
      refine N2.out.mono ?_;rintro en w11 ⟨v11,es11,rfl,ho11,ht11,hg11⟩;obtain ⟨va11,vc11,rfl⟩:=own_shape10 ho11;have H11:=hZq (gZq H10.out hg11);have SN:=hZq (sameNodes10 va11 va8 N vc11 vc8 (tellO t) w11 (nl_of ho11 ht11) (W8.out.kept H11.out) HN.out (by omega) (fun x hx=>by have:=TZ.out.ps x hx;omega));clear ho11 ht11 hg11 N2 H10
      go_wp2_with fail
      refine SN.out.mono ?_;rintro en w12 ⟨rfl,hg12⟩;have H12:=hZq (gZq H11.out hg12);clear hg12 SN;go_wp2;go_roundw
      case rel=>exact ⟨i+1,by omega,by go_num,H12.out⟩
      case measure=>simp [intOf];omega
     ·obtain rfl:i=m5:=by omega
      have j1:¬ (i:Int)<(i:Int):=by omega
      have G9:=hZq (gZq GX.out HG.out);have NU:=hZq (numbersL_any (numO t zs) q2 wr (HU.out.kept (FrT.of G9.out)) SU.out.nq)
      go_wp2_with fail
      refine NU.out.mono ?_;rintro en w13 ⟨ya,yn,yc,all,rfl,hn13,hr13,hm13,hv13,hg13⟩;have A13:=hZq (NmT.zr hn13);have R13:=hZq hr13;have HYN:=hZq hn13.num;have hyb:yn<=9223372036854775807:=Nat.le_trans hn13.cap hn13.c2;have AQ:=hZq (all_len HL.out HK.out R6.out.nodup M6.out hr13.nodup hm13);have G13:=hZq (gZq G9.out hg13);clear hn13 hr13 hm13 hv13 hg13 NU
      go_wp2_with fail
      go_loopw [20] (fun s20 wr=>∃ k:Nat,(k=0∨k+1<=yn)/\s20=.int .i64 (k:Nat)/\Qt w13 wr) (fun s20 _=>yn - (intOf s20).toNat)
      case atStart=>exact ⟨0,.inl rfl,rfl,Qt.refl _⟩
      case round =>
       obtain ⟨k,hk,rfl,hq⟩:=hrel;have HQ:=hZq hq;clear hq
       by_cases hlt2:k+1<yn
       ·obtain ⟨z1,hz1⟩:∃ z,all[k]?=some z:=⟨_,List.getElem?_eq_getElem (by have:=HYN.out;omega)⟩
        obtain ⟨z2,hz2⟩:∃ z,all[k+1]?=some z:=⟨_,List.getElem?_eq_getElem (by have:=HYN.out;omega)⟩
        have hzz:z1<z2:=by
         obtain ⟨u1,e1⟩:=List.getElem?_eq_some_iff.1 hz1;obtain ⟨u2,e2⟩:=List.getElem?_eq_some_iff.1 hz2;have:=List.pairwise_iff_getElem.1 R13.out k (k+1) u1 u2 (by omega);rw [e1,e2] at this;exact this
        obtain ⟨yb,yo,rfl,q1⟩:=A13.out k z1 hz1;obtain ⟨yb',yo',hyy,q2'⟩:=A13.out (k+1) z2 hz2;cases hyy;have x1:=(HQ.out.cell _).trans q1;have x2:=(HQ.out.cell _).trans q2';have g1:(0:Int)<=(k:Int):=by omega
        have g2:(k:Int)+1<(yn:Int):=by omega
        have g3:(k:Int)<(yn:Int):=by omega
        have g4:¬ z2<=z1:=by omega
        have g5:(0:Int)<=(k:Int)+1:=by omega
        have g6:IntKind.i64.wrap ((k:Int)+1)=(k:Int)+1:=by rw [IntKind.wrap_i64];omega
        clear hz1 hz2 q1 q2' hzz;go_wp2
        go_quiet (fail)
        generalize hwd:wr.drewN _=w14 at *;have q9:Qt wr w14:=by rw [<- hwd];exact Qt.drewN _ _
        have Q9:=hZq (HQ.out.trans q9);clear hwd q9;go_wp2;go_roundw
        case rel=>exact ⟨k+1,.inr (by omega),by go_num,Q9.out⟩
        case measure=>simp [intOf];omega
       ·have g2:¬ (k:Int)+1<(yn:Int):=by omega
        have hy:yn=nn+un:=by
         have h1:=AQ.out;have h2:=HYN.out;have h3:=HNN.out;have h4:=HLN.out;omega
        have HY:=hZq hy;clear hy;go_wp2;go_ret;have hy:=HY.out;exact ⟨congrArg (fun b=>Ending.returned (Value.bool b)) (beq_iff_eq.2 (by omega)),gZq G13.out (HQ.out.grown none)⟩
   ·have i0:(0:Int)<(un:Int):=by omega
    have i0n:0<un:=by omega
    by_cases h1:nn=0
    ·have i1:¬ (0:Int)<(nn:Int):=by omega
     have i1n:¬ 0<nn:=by omega
     go_wp2_with fail
     go_upto_region 18 with fail
     have NT:=hZq (nodes_any t q w6 (HT.out.kept (FrT.of G6.out)) SD.out.ok SD.out.chk (by have:=TZ.out.len;omega) (by have:=TZ.out.high;omega));obtain ⟨N,hN⟩:∃ N,(tellO t).length=N:=⟨_,rfl⟩;rw [hN] at NT;have HN:=hZq hN;have hNb:N<=14000:=by have:=TZ.out.len;omega
     clear hN
     go_wp2_with fail
     refine NT.out.mono ?_;rintro en w8 ⟨v8,es8,rfl,ho8,ht8,hg8⟩;obtain ⟨va8,vc8,rfl⟩:=own_shape10 ho8;have W8:=hZq (nl_of ho8 ht8);have GX:=hZq (gZq G6.out hg8);have OX:=hZq (O6.out.kept hg8 (Classical.em _));have LX:Hid (∀ e∈es5,LbW (gatO t) un w8 e):=fun e he=>(L6.out e he).kept hg8
     have HMX:Hid (es5.length=m5):=by
      have:=OX.out.1
      show es5.length=m5
      simpa using this
     clear ho8 ht8 hg8 NT
     go_wp2_with fail
     go_loopw [15,16,17,18] (fun s15 _ _ _ wr=>∃ i:Nat,i<=m5/\s15=.int .i64 (i:Nat)/\w8.grownBy wr none) (fun s15 _ _ _ _=>m5 - (intOf s15).toNat)
     case atStart=>exact ⟨0,Nat.zero_le _,rfl,World.grownBy.refl _ _⟩
     case round =>
      obtain ⟨i,hi,rfl,hg⟩:=hrel;have HG:=hZq hg;clear hg
      by_cases hlt:i<m5
      ·have j0:(0:Int)<=(i:Int):=by omega
       have j1:(i:Int)<(m5:Int):=by omega
       obtain ⟨e,he⟩:∃ e,es5[i]?=some e:=⟨_,List.getElem?_eq_getElem (by have:=HMX.out;omega)⟩;obtain ⟨xa,xn,xc,l,rfl,hl1,hl2,hl3⟩:=LX.out e (List.mem_of_getElem? he);obtain ⟨gx,gc,hax⟩:=own_some10 OX.out (by omega);injection hax with hax1 hax2 hax3
       subst hax1 hax3;have hcx:=OX.out.cellAt i (by omega);rw [he] at hcx;have cx:=keep1 hcx HG.out;have NB:=hZq (numbered_any t q xa xn xc l wr (HT.out.kept (FrT.of (gZq GX.out HG.out))) SD.out.ok SD.out.nq (by have:=PG.out;omega) (EsT.kept hl1 (by decide) (FrT.of HG.out)) hl3);have HB:=hZq hl2;clear he hl1 hl2 hl3 hcx
       go_wp2_with fail
       refine NB.out.mono ?_;rintro en w10 ⟨hen,hg10⟩;rw [if_neg (by rintro ⟨h1,h2⟩;rcases HB.out with h | h;exact h (by rw [h1,<- HL.out,HLN.out]);rw [h] at h2;cases h2)] at hen;subst hen;have H10:=hZq (gZq HG.out hg10);clear hg10 NB;have N2:=hZq (nodes_any t q w10 (HT.out.kept (FrT.of (gZq GX.out H10.out))) SD.out.ok SD.out.chk (by have:=TZ.out.len;omega) (by have:=TZ.out.high;omega));rw [HN.out] at N2
       go_wp2_with (first | (go_at_call 27;refine (num10 _ _).mono ?_;rintro en wz ⟨rfl,hwz⟩;rw [hwz];clear hwz) | fail)
       refine N2.out.mono ?_;rintro en w11 ⟨v11,es11,rfl,ho11,ht11,hg11⟩;obtain ⟨va11,vc11,rfl⟩:=own_shape10 ho11;have H11:=hZq (gZq H10.out hg11);have SN:=hZq (sameNodes10 va11 va8 N vc11 vc8 (tellO t) w11 (nl_of ho11 ht11) (W8.out.kept H11.out) HN.out (by omega) (fun x hx=>by have:=TZ.out.ps x hx;omega));clear ho11 ht11 hg11 N2 H10
       go_wp2_with fail
       refine SN.out.mono ?_;rintro en w12 ⟨rfl,hg12⟩;have H12:=hZq (gZq H11.out hg12);clear hg12 SN;go_wp2;go_roundw
       case rel=>exact ⟨i+1,by omega,by go_num,H12.out⟩
       case measure=>simp [intOf];omega
      ·obtain rfl:i=m5:=by omega
       have j1:¬ (i:Int)<(i:Int):=by omega
       have G9:=hZq (gZq GX.out HG.out);have NU:=hZq (numbersL_any (numO t zs) q2 wr (HU.out.kept (FrT.of G9.out)) SU.out.nq)
       go_wp2_with fail
       refine NU.out.mono ?_;rintro en w13 ⟨ya,yn,yc,all,rfl,hn13,hr13,hm13,hv13,hg13⟩;have A13:=hZq (NmT.zr hn13);have R13:=hZq hr13;have HYN:=hZq hn13.num;have hyb:yn<=9223372036854775807:=Nat.le_trans hn13.cap hn13.c2;have AQ:=hZq (all_len HL.out HK.out R6.out.nodup M6.out hr13.nodup hm13);have G13:=hZq (gZq G9.out hg13);clear hn13 hr13 hm13 hv13 hg13 NU
       go_wp2_with fail
       go_loopw [20] (fun s20 wr=>∃ k:Nat,(k=0∨k+1<=yn)/\s20=.int .i64 (k:Nat)/\Qt w13 wr) (fun s20 _=>yn - (intOf s20).toNat)
       case atStart=>exact ⟨0,.inl rfl,rfl,Qt.refl _⟩
       case round =>
        obtain ⟨k,hk,rfl,hq⟩:=hrel;have HQ:=hZq hq;clear hq
        by_cases hlt2:k+1<yn
        ·obtain ⟨z1,hz1⟩:∃ z,all[k]?=some z:=⟨_,List.getElem?_eq_getElem (by have:=HYN.out;omega)⟩
         obtain ⟨z2,hz2⟩:∃ z,all[k+1]?=some z:=⟨_,List.getElem?_eq_getElem (by have:=HYN.out;omega)⟩
         have hzz:z1<z2:=by
          obtain ⟨u1,e1⟩:=List.getElem?_eq_some_iff.1 hz1;obtain ⟨u2,e2⟩:=List.getElem?_eq_some_iff.1 hz2;have:=List.pairwise_iff_getElem.1 R13.out k (k+1) u1 u2 (by omega);rw [e1,e2] at this;exact this
         obtain ⟨yb,yo,rfl,q1⟩:=A13.out k z1 hz1;obtain ⟨yb',yo',hyy,q2'⟩:=A13.out (k+1) z2 hz2;cases hyy;have x1:=(HQ.out.cell _).trans q1;have x2:=(HQ.out.cell _).trans q2';have g1:(0:Int)<=(k:Int):=by omega
         have g2:(k:Int)+1<(yn:Int):=by omega
         have g3:(k:Int)<(yn:Int):=by omega
         have g4:¬ z2<=z1:=by omega
         have g5:(0:Int)<=(k:Int)+1:=by omega
         have g6:IntKind.i64.wrap ((k:Int)+1)=(k:Int)+1:=by rw [IntKind.wrap_i64];omega
         clear hz1 hz2 q1 q2' hzz;go_wp2
         go_quiet (fail)
         generalize hwd:wr.drewN _=w14 at *;have q9:Qt wr w14:=by rw [<- hwd];exact Qt.drewN _ _
         have Q9:=hZq (HQ.out.trans q9);clear hwd q9;go_wp2;go_roundw
         case rel=>exact ⟨k+1,.inr (by omega),by go_num,Q9.out⟩
         case measure=>simp [intOf];omega
        ·have g2:¬ (k:Int)+1<(yn:Int):=by omega
         have hy:yn=nn+un:=by
          have h1:=AQ.out;have h2:=HYN.out;have h3:=HNN.out;have h4:=HLN.out;omega
         have HY:=hZq hy;clear hy;go_wp2;go_ret;have hy:=HY.out;exact ⟨congrArg (fun b=>Ending.returned (Value.bool b)) (beq_iff_eq.2 (by omega)),gZq G13.out (HQ.out.grown none)⟩
    ·have i1:(0:Int)<(nn:Int):=by omega
     have i1n:0<nn:=by omega
     go_wp2_with fail
     refine (IC.out w6 G6.out).mono ?_;rintro en w7 ⟨⟨v7,rfl,ho7⟩,hg7⟩;obtain ⟨g7,c7,rfl⟩:=own_some10 ho7 (by omega);have hg7b:w6.heap.size<=g7:=(own_lt10 ho7 rfl).1;obtain ⟨U,hU⟩:∃ U,un / 2=U:=⟨_,rfl⟩;obtain ⟨V,hV⟩:∃ V,nn / 2=V:=⟨_,rfl⟩;have z7:=ho7.frozenAt U;have y7:=ho7.cellAt U (by omega);obtain ⟨zu,hzu⟩:∃ z,zs[U]?=some z:=⟨_,List.getElem?_eq_getElem (by have:=HLN.out;omega)⟩;rw [List.getElem?_map,hzu] at y7;obtain ⟨zv,hzv⟩:∃ z,has[V]?=some z:=⟨_,List.getElem?_eq_getElem (by have:=HNN.out;omega)⟩;have hzm:=List.mem_of_getElem? hzv;obtain ⟨hb,ho,rfl,hcv⟩:=NmT.zr N6.out V zv hzv;have x7:=keep1 hcv hg7;have GN:=hZq (grown_new hg7 (grown_cell w7 g7 U (.int .i64 zv)) hg7b);have L7:Hid (LbW (gatO t) un (w7.setCell ⟨g7,U,none⟩ (.int .i64 zv)) (.slice (some ⟨g7,0,none⟩) un c7)):=lb_own (l:=zs.set U zv) (by have:=(ho7.stored U (.int .i64 zv)).1;rw [List.map_set];exact this) (.inr (tk_taken (by have:=HLN.out;omega) ((M6.out zv).1 hzm))) (set_bd HZB.out (by have:=V6.out zv hzm;omega));have d1:(un:Int) / 2=(U:Int):=by omega
     have d2:(nn:Int) / 2=(V:Int):=by omega
     have d3:(un:Int).tdiv 2=(U:Int):=by rw [Int.tdiv_eq_ediv_of_nonneg (by omega)];exact d1
     have d4:(nn:Int).tdiv 2=(V:Int):=by rw [Int.tdiv_eq_ediv_of_nonneg (by omega)];exact d2
     have k0:(0:Int)<=(U:Int):=by omega
     have k1:(U:Int)<(un:Int):=by omega
     have k2:(0:Int)<=(V:Int):=by omega
     have k3:(V:Int)<(nn:Int):=by omega
     clear ho7 hg7 hg7b hcv hU hV hzv hzu;go_upto_region 17 with fail
     generalize w7.setCell ⟨g7,U,none⟩ (.int .i64 zv)=w8' at *;clear z7 y7 x7 d1 d2 d3 d4 k0 k1 k2 k3;have G8':=hZq (gZq G6.out GN.out);have O8':=hZq (O6.out.kept GN.out (Classical.em _))
     go_wp2_with (at_builtin;refine wpList_append_own _ rfl _ _ 50 rfl w.heap.size 52 ti (.slice none 0 0) 1 24 Tryz.underlying50 hti tz0 tz1 tz2 rfl (by decide) _ m5 es5 rfl (O8'.out.alloc _) ⟨w8'.heap.size,0,none⟩ 1 1 [.slice (some ⟨g7,0,none⟩) un c7] rfl rfl (cells_lit10 _ _ _) (by intro u hu;simp at hu;subst hu;rfl) (by unfold maxLen;omega) (by omega) (by have:=G8'.out.size;simp;omega) ?_)
     intro v9 w9 ho9 hg9 _
     have R9:=hZq (rfi_app (S:=gatO t) (F:=un) (M:=6) _ O8'.out (fun e he=>(L6.out e he).kept GN.out) G8'.out (fun e he=>by
      rw [List.mem_singleton.1 he];exact L7.out) ho9 hg9 (by omega))
     clear ho9 hg9;obtain ⟨⟨m9,c9,a9,es9,rfl,o9,l9,b9⟩,g9⟩:=R9.out;have O9:=hZq o9;have L9:=hZq l9;have G9':=hZq g9;clear o9 l9 g9 R9;go_upto_region 18 with fail
     have NT:=hZq (nodes_any t q w9 (HT.out.kept (FrT.of G9'.out)) SD.out.ok SD.out.chk (by have:=TZ.out.len;omega) (by have:=TZ.out.high;omega));obtain ⟨N,hN⟩:∃ N,(tellO t).length=N:=⟨_,rfl⟩;rw [hN] at NT;have HN:=hZq hN;have hNb:N<=14000:=by have:=TZ.out.len;omega
     clear hN
     go_wp2_with fail
     refine NT.out.mono ?_;rintro en w8 ⟨v8,es8,rfl,ho8,ht8,hg8⟩;obtain ⟨va8,vc8,rfl⟩:=own_shape10 ho8;have W8:=hZq (nl_of ho8 ht8);have GX:=hZq (gZq G9'.out hg8);have OX:=hZq (O9.out.kept hg8 (Classical.em _));have LX:Hid (∀ e∈es9,LbW (gatO t) un w8 e):=fun e he=>(L9.out e he).kept hg8
     have HMX:Hid (es9.length=m9):=by
      have:=OX.out.1
      show es9.length=m9
      simpa using this
     clear ho8 ht8 hg8 NT
     go_wp2_with fail
     go_loopw [15,16,17,18] (fun s15 _ _ _ wr=>∃ i:Nat,i<=m9/\s15=.int .i64 (i:Nat)/\w8.grownBy wr none) (fun s15 _ _ _ _=>m9 - (intOf s15).toNat)
     case atStart=>exact ⟨0,Nat.zero_le _,rfl,World.grownBy.refl _ _⟩
     case round =>
      obtain ⟨i,hi,rfl,hg⟩:=hrel;have HG:=hZq hg;clear hg
      by_cases hlt:i<m9
      ·have j0:(0:Int)<=(i:Int):=by omega
       have j1:(i:Int)<(m9:Int):=by omega
       obtain ⟨e,he⟩:∃ e,es9[i]?=some e:=⟨_,List.getElem?_eq_getElem (by have:=HMX.out;omega)⟩;obtain ⟨xa,xn,xc,l,rfl,hl1,hl2,hl3⟩:=LX.out e (List.mem_of_getElem? he);obtain ⟨gx,gc,hax⟩:=own_some10 OX.out (by omega);injection hax with hax1 hax2 hax3
       subst hax1 hax3;have hcx:=OX.out.cellAt i (by omega);rw [he] at hcx;have cx:=keep1 hcx HG.out;have NB:=hZq (numbered_any t q xa xn xc l wr (HT.out.kept (FrT.of (gZq GX.out HG.out))) SD.out.ok SD.out.nq (by have:=PG.out;omega) (EsT.kept hl1 (by decide) (FrT.of HG.out)) hl3);have HB:=hZq hl2;clear he hl1 hl2 hl3 hcx
       go_wp2_with fail
       refine NB.out.mono ?_;rintro en w10 ⟨hen,hg10⟩;rw [if_neg (by rintro ⟨h1,h2⟩;rcases HB.out with h | h;exact h (by rw [h1,<- HL.out,HLN.out]);rw [h] at h2;cases h2)] at hen;subst hen;have H10:=hZq (gZq HG.out hg10);clear hg10 NB;have N2:=hZq (nodes_any t q w10 (HT.out.kept (FrT.of (gZq GX.out H10.out))) SD.out.ok SD.out.chk (by have:=TZ.out.len;omega) (by have:=TZ.out.high;omega));rw [HN.out] at N2
       go_wp2_with (first | (go_at_call 27;refine (num10 _ _).mono ?_;rintro en wz ⟨rfl,hwz⟩;rw [hwz];clear hwz) | fail)
       refine N2.out.mono ?_;rintro en w11 ⟨v11,es11,rfl,ho11,ht11,hg11⟩;obtain ⟨va11,vc11,rfl⟩:=own_shape10 ho11;have H11:=hZq (gZq H10.out hg11);have SN:=hZq (sameNodes10 va11 va8 N vc11 vc8 (tellO t) w11 (nl_of ho11 ht11) (W8.out.kept H11.out) HN.out (by omega) (fun x hx=>by have:=TZ.out.ps x hx;omega));clear ho11 ht11 hg11 N2 H10
       go_wp2_with fail
       refine SN.out.mono ?_;rintro en w12 ⟨rfl,hg12⟩;have H12:=hZq (gZq H11.out hg12);clear hg12 SN;go_wp2;go_roundw
       case rel=>exact ⟨i+1,by omega,by go_num,H12.out⟩
       case measure=>simp [intOf];omega
      ·obtain rfl:i=m9:=by omega
       have j1:¬ (i:Int)<(i:Int):=by omega
       have G9:=hZq (gZq GX.out HG.out);have NU:=hZq (numbersL_any (numO t zs) q2 wr (HU.out.kept (FrT.of G9.out)) SU.out.nq)
       go_wp2_with fail
       refine NU.out.mono ?_;rintro en w13 ⟨ya,yn,yc,all,rfl,hn13,hr13,hm13,hv13,hg13⟩;have A13:=hZq (NmT.zr hn13);have R13:=hZq hr13;have HYN:=hZq hn13.num;have hyb:yn<=9223372036854775807:=Nat.le_trans hn13.cap hn13.c2;have AQ:=hZq (all_len HL.out HK.out R6.out.nodup M6.out hr13.nodup hm13);have G13:=hZq (gZq G9.out hg13);clear hn13 hr13 hm13 hv13 hg13 NU
       go_wp2_with fail
       go_loopw [20] (fun s20 wr=>∃ k:Nat,(k=0∨k+1<=yn)/\s20=.int .i64 (k:Nat)/\Qt w13 wr) (fun s20 _=>yn - (intOf s20).toNat)
       case atStart=>exact ⟨0,.inl rfl,rfl,Qt.refl _⟩
       case round =>
        obtain ⟨k,hk,rfl,hq⟩:=hrel;have HQ:=hZq hq;clear hq
        by_cases hlt2:k+1<yn
        ·obtain ⟨z1,hz1⟩:∃ z,all[k]?=some z:=⟨_,List.getElem?_eq_getElem (by have:=HYN.out;omega)⟩
         obtain ⟨z2,hz2⟩:∃ z,all[k+1]?=some z:=⟨_,List.getElem?_eq_getElem (by have:=HYN.out;omega)⟩
         have hzz:z1<z2:=by
          obtain ⟨u1,e1⟩:=List.getElem?_eq_some_iff.1 hz1;obtain ⟨u2,e2⟩:=List.getElem?_eq_some_iff.1 hz2;have:=List.pairwise_iff_getElem.1 R13.out k (k+1) u1 u2 (by omega);rw [e1,e2] at this;exact this
         obtain ⟨yb,yo,rfl,q1⟩:=A13.out k z1 hz1;obtain ⟨yb',yo',hyy,q2'⟩:=A13.out (k+1) z2 hz2;cases hyy;have x1:=(HQ.out.cell _).trans q1;have x2:=(HQ.out.cell _).trans q2';have g1:(0:Int)<=(k:Int):=by omega
         have g2:(k:Int)+1<(yn:Int):=by omega
         have g3:(k:Int)<(yn:Int):=by omega
         have g4:¬ z2<=z1:=by omega
         have g5:(0:Int)<=(k:Int)+1:=by omega
         have g6:IntKind.i64.wrap ((k:Int)+1)=(k:Int)+1:=by rw [IntKind.wrap_i64];omega
         clear hz1 hz2 q1 q2' hzz;go_wp2
         go_quiet (fail)
         generalize hwd:wr.drewN _=w14 at *;have q9:Qt wr w14:=by rw [<- hwd];exact Qt.drewN _ _
         have Q9:=hZq (HQ.out.trans q9);clear hwd q9;go_wp2;go_roundw
         case rel=>exact ⟨k+1,.inr (by omega),by go_num,Q9.out⟩
         case measure=>simp [intOf];omega
        ·have g2:¬ (k:Int)+1<(yn:Int):=by omega
         have hy:yn=nn+un:=by
          have h1:=AQ.out;have h2:=HYN.out;have h3:=HNN.out;have h4:=HLN.out;omega
         have HY:=hZq hy;clear hy;go_wp2;go_ret;have hy:=HY.out;exact ⟨congrArg (fun b=>Ending.returned (Value.bool b)) (beq_iff_eq.2 (by omega)),gZq G13.out (HQ.out.grown none)⟩
theorem numL_str (ps:List PrT)(l:List Int):(numL numP frP ps l).map strP=ps.map strP:=numL_map numP frP strP ps l (fun _ _ _=>rfl)
theorem mp_cong {w:World}{a:Option Addr}{n c:Nat}{L M:List PrT}(h:MpW w a n c L)(e:L.map strP=M.map strP):MpW w a n c M:=by
 obtain ⟨h0,es,h1,h2⟩:=h;have hl:L.length=M.length:=by have:=congrArg List.length e;simpa using this
 refine ⟨by omega,es,h1,by rw [h2.len];exact hl,fun i e' p k1 k2=>?_⟩;have hi:i<L.length:=by have:=(List.getElem?_eq_some_iff.1 k2).1;omega
 have hx:L[i]?=some L[i]:=List.getElem?_eq_getElem hi;have e1:=congrArg (fun (l:List PrT)=>l[i]?) e;simp only [List.getElem?_map,hx,k2,Option.map_some,Option.some.injEq] at e1;have k:=h2.get i e' L[i] k1 hx
 revert k e1
 generalize L[i]=y;intro e1 k;obtain ⟨a1,a2,a3⟩:=y;obtain ⟨b1,b2,b3⟩:=p;simp only [strP,PrT.mk.injEq,and_true] at e1;obtain ⟨rfl,rfl⟩:=e1;exact k
structure NuJ (w1 wr:World)(B:Nat)(x0 x1 x2 x4 x5:Value)(j:Nat)(C:List (List Int)):Prop where
 ex:∃ (va:Option Addr) (vc:Nat) (es:List Value),wr.heap[B]?=some (.cells #[x0,x1,x2,.slice va j vc,x4,x5] 54 (0,0))/\wr.ownsRow (B+1) 52 1 (.slice va j vc) j es/\es.length=j/\∀ (i:Nat) (s:List Int),C[i]?=some s->∃ ao c,es[i]?=some (Value.slice ao s.length c)/\ZrW w1 ao s
 gr:w1.grownBy wr none
theorem NuJ.zl {w1 wr:World}{B:Nat}{x0 x1 x2 x4 x5:Value}{j:Nat}{C:List (List Int)}(h:NuJ w1 wr B x0 x1 x2 x4 x5 j C)(hC:C.length=j)(hB:w1.heap.size<=B):∃ va vc,wr.heap[B]?=some (.cells #[x0,x1,x2,.slice va j vc,x4,x5] 54 (0,0))/\∀ w',wr.grownBy w' (some B)->ZlW w' va C:=by
 obtain ⟨va,vc,es,h1,h2,h3,h4⟩:=h.ex;refine ⟨va,vc,h1,fun w' hw i s hs=>?_⟩;obtain ⟨ao,c,e1,e2⟩:=h4 i s hs;have hi:=(List.getElem?_eq_some_iff.1 hs).1;rcases h2.2 with ⟨_,h0⟩ | ⟨g,cap,cur,hv,hgB,_⟩
 ·omega
 ·injection hv with hv1 hv2 hv3
  subst hv1;subst hv3;refine ⟨g,0,ao,c,rfl,?_,e2.kept (grown_new h.gr hw hB)⟩;refine hw.cell ?_ (fun e=>by have:=Option.some.inj e;simp only at this;omega);rw [Nat.zero_add,h2.cellAt i (by omega)];exact e1
theorem nuj_step {wa wr w5:World}{B:Nat}{x0 x1 x2 x4 x5:Value}{j n:Nat}{C:List (List Int)}{va:Option Addr}{vc:Nat}{es:List Value}{ao:Option Addr}{c:Nat}{s:List Int}{v':Value}{o:Obj}
  (hB:wa.heap.size=B) (gr:wa.grownBy wr none) (hbx:wr.heap[B]?=some (.cells #[x0,x1,x2,.slice va j vc,x4,x5] 54 (0,0))) (how:wr.ownsRow (B+1) 52 1 (.slice va j vc) j es) (hel:es.length=j)
  (hes:∀ (i:Nat) (s:List Int),C[i]?=some s->∃ ao c,es[i]?=some (Value.slice ao s.length c)/\ZrW wa ao s) (hC:C.length=j) (hz:ZrW wa ao s) (hn:s.length=n) (ho:w5.ownsRow (B+1) 52 1 v' (j+1) (es++[.slice ao n c])) (hg:(wr.alloc o).grownBy w5 (Value.slice va j vc).ownBlock) :
  ∃ va5 vc5,v'=.slice va5 (j+1) vc5/\w5.heap[B]?=some (.cells #[x0,x1,x2,.slice va j vc,x4,x5] 54 (0,0))/\NuJ wa (w5.setCell ⟨B,3,none⟩ (.slice va5 (j+1) vc5)) B x0 x1 x2 x4 x5 (j+1) (C++[s]):=by
 obtain ⟨va5,vc5,rfl⟩:=own_shape10 ho;have hb4:=heap_kept hbx (World.grownBy_alloc wr o none);have hne:some B≠(Value.slice va j vc).ownBlock:=fun e=>by have:=(own_lt10 how e.symm).1;omega
 have hb5:w5.heap[B]?=some (.cells #[x0,x1,x2,.slice va j vc,x4,x5] 54 (0,0)):=by
  rw [hg.block B (Array.getElem?_eq_some_iff.1 hb4).1 hne];exact hb4
 refine ⟨va5,vc5,rfl,hb5,⟨va5,vc5,es++[.slice ao n c],heap_setCell_same w5 B 3 _ _ _ hb5,own_set ho (by omega),by rw [List.length_append,hel];rfl,fun i s' hi=>?_⟩,grown_new (grown_app10 gr how (by omega) hg) (grown_cell w5 B 3 _) (by omega)⟩
 by_cases hlt:i<C.length
 ·rw [List.getElem?_append_left hlt] at hi
  obtain ⟨ao',c',h1,h2⟩:=hes i s' hi;exact ⟨ao',c',by rw [List.getElem?_append_left (by omega)];exact h1,h2⟩
 ·rw [List.getElem?_append_right (by omega)] at hi
  have hi0:i - C.length=0:=by
   have:=(List.getElem?_eq_some_iff.1 hi).1;simp only [List.length_singleton] at this;omega
  rw [hi0] at hi;have e:s=s':=by simpa using hi
  subst e;rw [hn];refine ⟨ao,c,?_,hz⟩;rw [List.getElem?_append_right (by omega),show i - es.length=0 by omega]
  rfl
theorem nz_sub {w:World}{a:Option Addr}{n c k m:Nat}{zs:List Int}(h:NmT w a n c zs)(hk:k+m<=n)(hm:0<m):∃ b off,a=some ⟨b,off,none⟩/\ZrW w (some ⟨b,off+k,none⟩) ((zs.drop k).take m):=by
 obtain ⟨b,off,rfl⟩:=EsT.where h (by omega);refine ⟨b,off,rfl,fun i z hz=>?_⟩;rw [List.getElem?_take] at hz
 split at hz
 ·rw [List.getElem?_drop] at hz
  obtain ⟨b',off',h1,h2⟩:=NmT.zr h (k+i) z hz;cases h1;exact ⟨b,off+k,rfl,by rw [Nat.add_assoc];exact h2⟩
 ·cases hz
end Go.Proofs.YtepcgckapoljpaaGreat
