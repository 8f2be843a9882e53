import Derived.Test.YtepcgckapoljpaaGreatQ40
import Derived.Test.YtepcgckapoljpaaGreatQ34
import Derived.Deep.RegionHeld3
import Derived.Deep.CutBlock
import Derived.Lib.SlBytesConst
set_option maxRecDepth 100000
set_option maxHeartbeats 16000000
namespace Go.Proofs.YtepcgckapoljpaaGreat
open Go.RowKit
def stO (t:Option TrT)(key val:List Int)(gone:Bool):Option TrT:=if badB key.length val.length gone=true then t else (treeT t key (nowB key val gone)).getD t
theorem nowB_ok {key val:List Int}{gone:Bool}(hb:badB key.length val.length gone=false)(bk:Bt key)(bv:Bt val):NowT key (nowB key val gone)/\∀ p∈nowB key val gone,p.chain=[]:=by
 cases gone with
 | true=>exact ⟨⟨by simp [nowB],by simp [nowB],by simp [nowB]⟩,by simp [nowB]⟩
 | false =>
  have hb':¬ key.length<1/\¬ 255<key.length/\¬ 262144<val.length:=by
   generalize key.length=a at *;generalize val.length=b at *;simp [badB] at hb;omega
  refine ⟨⟨by simp [nowB],by simp [nowB],fun p hp=>?_⟩,by simp [nowB]⟩;have:p=⟨key,val,[]⟩:=by simpa [nowB] using hp
  subst this;exact ⟨by show 1<=key.length;omega,by show key.length<=255;omega,by show val.length<=262144;omega,bk,bv⟩
theorem upd_str (L:List PrT)(key:List Int)(now:List PrT)(hc:∀ p∈now,p.chain=[]):(updT L key now).map strP=updT (L.map strP) key now:=by
 have hn:now.map strP=now:=by
  conv=>rhs;rw [<- List.map_id now]
  refine List.map_congr_left (fun p hp=>?_);have:=hc p hp;obtain ⟨k,v,c⟩:=p;simp only at this;subst this
  rfl
 unfold updT;simp only [List.map_append,hn,List.filter_map]
 rfl
theorem upd_none_same {t:Option TrT}{key:List Int}{now:List PrT}(ho:OkO t)(hn:NowT key now)(h:treeT t key now=none):(updT (flatO t) key now).map strP=(flatO t).map strP:=by
 have h1:=(tree_none ho).1 h
 have hs:Srt (flatO t):=by
  match t,ho with
  | none,_=>exact List.Pairwise.nil
  | some t,ho=>exact flat_srt t.lv t.root ho
 have h2:=upd_same (key:=key) hs
 conv=>rhs;rw [<- h2]
 have hm:(midT (flatO t) key).map strP=now.map strP:=by
  have hk:∀ p∈midT (flatO t) key,p.key=key:=fun p hp=>by
   have:=(List.mem_filter.1 hp).2;exact cmp_zero (by simpa using this)
  revert h1 hk
  generalize midT (flatO t) key=M;intro h1 hk;have hnk:=hn.key;clear hn h2 h
  induction M generalizing now with
  | nil =>
   cases now with
   | nil=>rfl
   | cons y now=>simp at h1
  | cons x M ih =>
   cases now with
   | nil=>simp at h1
   | cons y now =>
    simp only [List.map_cons,List.cons.injEq] at h1 ⊢;refine ⟨?_,ih h1.2 (fun p hp=>hk p (List.mem_cons_of_mem _ hp)) (fun p hp=>hnk p (List.mem_cons_of_mem _ hp))⟩;unfold strP;rw [hk x List.mem_cons_self,hnk y List.mem_cons_self,h1.1]
 unfold updT;simp only [List.map_append,hm]
theorem st_sd {t:Option TrT}{key val:List Int}{gone:Bool}(h:SdT t)(bk:Bt key)(bv:Bt val):SdT (stO t key val gone)/\(flatO (stO t key val gone)).map strP=dosB ((flatO t).map strP) key val gone:=by
 unfold stO dosB
 by_cases hb:badB key.length val.length gone=true
 ·rw [if_pos hb,if_pos hb]
  exact ⟨h,rfl⟩
 ·rw [if_neg hb,if_neg hb]
  obtain ⟨hn,hc⟩:=nowB_ok (by simpa using hb) bk bv;cases hq:treeT t key (nowB key val gone) with
  | none =>
   refine ⟨h,?_⟩;rw [<- upd_str _ _ _ hc];exact (upd_none_same h.ok hn hq).symm
  | some u =>
   obtain ⟨h1,h2⟩:=h.change hn hc hq;refine ⟨h1,?_⟩;rw [<- upd_str _ _ _ hc]
   show (flatO u).map strP=_
   rw [h2]
theorem upd_lenB {L:List PrT}{key:List Int}{now:List PrT}:(updT L key now).length<=L.length+now.length:=by
 unfold updT
 have h1:∀ (M:List PrT),(M.filter fun p=>decide (cmpZ p.key key<0)).length+(M.filter fun p=>decide (0<cmpZ p.key key)).length<=M.length:=by
  intro M
  induction M with
  | nil=>simp
  | cons x M ih =>
   simp only [List.filter_cons,List.length_cons]
   by_cases a1:cmpZ x.key key<0
   ·have a2:¬ 0<cmpZ x.key key:=by omega
    simp only [a1,a2,decide_true,decide_false,if_true,List.length_cons,Bool.false_eq_true,if_false];omega
   ·by_cases a2:0<cmpZ x.key key
    ·simp only [a1,a2,decide_true,decide_false,if_true,List.length_cons,Bool.false_eq_true,if_false]
     omega
    ·simp only [a1,a2,decide_false,Bool.false_eq_true,if_false]
     omega
 have:=h1 L;simp only [List.length_append];omega
theorem dos_len {L:List PrT}{key val:List Int}{gone:Bool}:(dosB L key val gone).length<=L.length+(if gone then 0 else 1):=by
 unfold dosB
 split
 ·omega
 ·have:=upd_lenB (L:=L) (key:=key) (now:=nowB key val gone)
  cases gone
  ·simpa [nowB] using this
  ·simpa [nowB] using this
def ActR (t:Option TrT)(key val:List Int)(gone mark:Bool)(u:Option TrT):Prop:=if mark=true then ∃ zs,zs.length=frO (stO t key val gone)/\tkL (gatO (stO t key val gone)) zs=true/\u=numO (stO t key val gone) zs else u=stO t key val gone
theorem tk_q:∀ {zs S:List Int},tkL S zs=true->∀ z∈zs,2<=z/\z<524287/\z ∉ S
 | [],_,_,z,hz=>by simp at hz
 | y::zs,S,h,z,hz=>by
  rw [tkL,Bool.and_eq_true,decide_eq_true_eq] at h;rcases List.mem_cons.1 hz with rfl | hz
  ·exact h.1
  ·obtain ⟨h1,h2,h3⟩:=tk_q h.2 z hz
   exact ⟨h1,h2,fun hm=>h3 (List.mem_append_left _ hm)⟩
theorem act_sd {t u:Option TrT}{key val:List Int}{gone mark:Bool}(h:SdT t)(bk:Bt key)(bv:Bt val)(ha:ActR t key val gone mark u):SdT u/\(flatO u).map strP=dosB ((flatO t).map strP) key val gone:=by
 obtain ⟨h1,h2⟩:=st_sd (key:=key) (val:=val) (gone:=gone) h bk bv;unfold ActR at ha
 split at ha
 ·obtain ⟨zs,h3,h4,rfl⟩:=ha
  obtain ⟨h5,h6⟩:=h1.num (zs:=zs) (fun z hz=>.inr ⟨(tk_q h4 z hz).1,(tk_q h4 z hz).2.1⟩);exact ⟨h5,h6.trans h2⟩
 ·subst ha
  exact ⟨h1,h2⟩
def ActP (w:World)(t:Option TrT)(key val:List Int)(gone mark:Bool)(en:Ending)(w':World):Prop:=∃ q u,en=.returned (.pointer (some ⟨q,0,none⟩))/\TreeT w' q u/\ActR t key val gone mark u/\w.grownBy w' none
theorem wit_any (t:Option TrT)(p:Nat)(ka:Option Addr)(kn kc:Nat)(key:List Int)(va:Option Addr)(vn vc:Nat)(val:List Int)(w:World)(ht:TreeT w p t)(ox:OkO t)(hk:Byt w ka kn kc key)(bk:Bt key)(hv:Byt w va vn vc val)(bv:Bt val) :
  Calls Tryz.prog 32 #[.pointer (some ⟨p,0,none⟩),.slice ka kn kc,.slice va vn vc] w fun en w'=>∃ q,en=.returned (.tuple #[.pointer (some ⟨q,0,none⟩),.int .i64 (if badB kn vn false=true then 41 else 0)])/\TreeT w' q (stO t key val false)/\w.grownBy w' none:=by
 have lk:=hk.len;have lv:=hv.len;unfold stO;rw [lk,lv]
 by_cases hb:badB kn vn false=true
 ·rw [if_pos hb,if_pos hb]
  refine (with_bad p ka kn kc va vn vc w (by simp [badB] at hb;omega)).mono ?_;rintro en w' ⟨rfl,hg⟩;exact ⟨p,rfl,ht.kept (FrT.of hg),hg⟩
 ·rw [if_neg hb,if_neg hb]
  have hb':badB key.length val.length false=false:=by rw [lk,lv];simpa using hb
  obtain ⟨hn,hc⟩:=nowB_ok hb' bk bv;have hb2:¬ kn<1/\¬ 255<kn/\¬ 262144<vn:=by simp [badB] at hb;omega
  refine (with_any changedC t p ka kn kc key va vn vc val w ht ox hk bk hv (by omega) (by omega) (by omega) hn).mono ?_;rintro en w' ⟨hw,hg⟩
  show ∃ q,_/\TreeT w' q ((treeT t key [⟨key,val,[]⟩]).getD t)/\_
  cases e1:treeT t key [⟨key,val,[]⟩] with
  | none =>
   rw [e1] at hw;exact ⟨p,hw,ht.kept (FrT.of hg),hg⟩
  | some u =>
   rw [e1] at hw;obtain ⟨q,h1,h2⟩:=hw;exact ⟨q,h1,h2,hg⟩
theorem wot_any (t:Option TrT)(p:Nat)(ka:Option Addr)(kn kc:Nat)(key val:List Int)(w:World)(ht:TreeT w p t)(ox:OkO t)(hk:Byt w ka kn kc key)(bk:Bt key) :
  Calls Tryz.prog 34 #[.pointer (some ⟨p,0,none⟩),.slice ka kn kc] w fun en w'=>∃ q b,en=.returned (.tuple #[.pointer (some ⟨q,0,none⟩),.bool b])/\TreeT w' q (stO t key val true)/\w.grownBy w' none:=by
 refine (without_any changedC t p ka kn kc key w ht ox hk bk).mono ?_;rintro en w' ⟨hw,hg⟩;unfold stO;rw [if_neg (by simp [badB])]
 show ∃ q b,_/\TreeT w' q ((treeT t key []).getD t)/\_
 cases e:treeT t key [] with
 | none =>
  rw [e] at hw;exact ⟨p,_,hw,ht.kept (FrT.of hg),hg⟩
 | some u =>
  rw [e] at hw;obtain ⟨q,h1,h2⟩:=hw;exact ⟨q,_,h1,h2,hg⟩
theorem num10 (e:Int)(w:World):Calls Tryz.prog 27 #[.int .i64 e] w fun en w'=>en=.returned (.int .i64 e)/\w'=w:=by
 go_enter Tryz.func27,Tryz.ntmps27;go_wp2;go_ret;exact ⟨rfl,rfl⟩
def pF (i:Nat):PrT:=⟨[97+(i:Int)],List.replicate 500 (i:Int),[]⟩
def TF:Nat->Option TrT
 | 0=>none
 | k+1=>(treeT (TF k) (pF k).key [pF k]).getD none
def WF:Nat->Option TrT
 | 0=>TF 9
 | k+1=>(treeT (WF k) (pF (k+4)).key []).getD none
theorem tf_some0:(treeT (TF 0) (pF 0).key [pF 0]).isSome=true:=by kernel_rfl
theorem tf_some1:(treeT (TF 1) (pF 1).key [pF 1]).isSome=true:=by kernel_rfl
theorem tf_some2:(treeT (TF 2) (pF 2).key [pF 2]).isSome=true:=by kernel_rfl
theorem tf_some3:(treeT (TF 3) (pF 3).key [pF 3]).isSome=true:=by kernel_rfl
theorem tf_some4:(treeT (TF 4) (pF 4).key [pF 4]).isSome=true:=by kernel_rfl
theorem tf_some5:(treeT (TF 5) (pF 5).key [pF 5]).isSome=true:=by kernel_rfl
theorem tf_some6:(treeT (TF 6) (pF 6).key [pF 6]).isSome=true:=by kernel_rfl
theorem tf_some7:(treeT (TF 7) (pF 7).key [pF 7]).isSome=true:=by kernel_rfl
theorem tf_some8:(treeT (TF 8) (pF 8).key [pF 8]).isSome=true:=by kernel_rfl
theorem tf_some:∀ (k:Nat),k<9->(treeT (TF k) (pF k).key [pF k]).isSome=true
 | 0,_=>tf_some0
 | 1,_=>tf_some1
 | 2,_=>tf_some2
 | 3,_=>tf_some3
 | 4,_=>tf_some4
 | 5,_=>tf_some5
 | 6,_=>tf_some6
 | 7,_=>tf_some7
 | 8,_=>tf_some8
 | k+9,h=>by omega
theorem wf_some0:(treeT (WF 0) (pF 4).key []).isSome=true:=by kernel_rfl
theorem wf_some1:(treeT (WF 1) (pF 5).key []).isSome=true:=by kernel_rfl
theorem wf_some2:(treeT (WF 2) (pF 6).key []).isSome=true:=by kernel_rfl
theorem wf_some3:(treeT (WF 3) (pF 7).key []).isSome=true:=by kernel_rfl
theorem wf_some:∀ (k:Nat),k<4->(treeT (WF k) (pF (k+4)).key []).isSome=true
 | 0,_=>wf_some0
 | 1,_=>wf_some1
 | 2,_=>wf_some2
 | 3,_=>wf_some3
 | k+4,h=>by omega
theorem tf9_high:highO (TF 9)=2:=by kernel_rfl
theorem tf9_fresh:frO (TF 9)=3:=by kernel_rfl
theorem tf9_len:(flatO (TF 9)).length=9:=by kernel_rfl
theorem tf9_tell:(tellO (TF 9)).map (fun x=>(x.ps.length,x.ss))=[(4,[]),(5,[]),(0,[[101]])]:=by kernel_rfl
theorem wf4_high:highO (WF 4)=1:=by kernel_rfl
theorem wf4_len:(flatO (WF 4)).length=5:=by kernel_rfl
theorem wf4_get:getO (WF 4) [105]=some (List.replicate 500 8):=by kernel_rfl
theorem un_tk {t:Option TrT}{has zs:List Int}{lo:Int}(hm:∀ z,z∈has↔z∈gatO t)(h:UnP has lo (frO t) zs):tkL (gatO t) zs=true:=tk_of h.ris (fun z hz=>by
 obtain ⟨_,h2,h3,h4⟩:=h.el z hz;exact ⟨h2,h3,fun k=>h4 ((hm z).2 k)⟩)
theorem has_le {t:Option TrT}{has:List Int}(hr:RisN has)(hm:∀ z,z∈has↔z∈gatO t):has.length<=(gatO t).length:=nodup_le hr.nodup (fun z hz=>(hm z).1 hz)
theorem act_any (t:Option TrT)(p:Nat)(ka:Option Addr)(kn kc:Nat)(key:List Int)(va:Option Addr)(vn vc:Nat)(val:List Int)(gone mark:Bool)(no:Int)(w:World)(ht:TreeT w p t)(hs:SdT t)(hk:Byt w ka kn kc key)(hv:Byt w va vn vc val)(bk:Bt key)(bv:Bt val)(hl:(flatO (stO t key val gone)).length<=2000) :
  Calls Tryz.prog 8 #[.pointer (some ⟨p,0,none⟩),.agg #[.slice ka kn kc,.slice va vn vc,.bool gone,.bool mark,.int .i64 no]] w fun en w'=>ActP w t key val gone mark en w':=by
 have g0:=World.grownBy_alloc w (.cells #[.slice ka kn kc,.slice va vn vc,.bool gone,.bool mark,.int .i64 no] 32) none;have x1:=heap_at0 w #[.slice ka kn kc,.slice va vn vc,.bool gone,.bool mark,.int .i64 no] 32;have HT:=hZq (ht.kept (FrT.of g0));have HK:=hZq (hk.keptN g0);have HV:=hZq (hv.keptN g0);have G0:=hZq g0;have X1:=hZq x1;obtain ⟨hs1,_⟩:=st_sd (key:=key) (val:=val) (gone:=gone) hs bk bv;have HS1:=hZq hs1;have HO:=hZq hs.ok;have PG:=hZq (hs1.pages hl);have lk:=hk.len;have lv:=hv.len;have HKL:=hZq (And.intro lk lv);clear ht hk hv g0 hs hs1 hl lk lv;go_enter Tryz.func8,Tryz.ntmps8;go_upto_region 1 with fail
 generalize w.alloc (.cells #[.slice ka kn kc,.slice va vn vc,.bool gone,.bool mark,.int .i64 no] 32)=w1 at *;generalize w.heap.size=B at *;have d0:=cell_heap (i:=0) x1 rfl;have d1:=cell_heap (i:=1) x1 rfl;have d2:=cell_heap (i:=2) x1 rfl;have d3:=cell_heap (i:=3) x1 rfl;have d4:=cell_heap (i:=4) x1 rfl;clear x1;obtain ⟨t1,ht1⟩:∃ t1,stO t key val gone=t1:=⟨_,rfl⟩;rw [ht1] at HS1 PG;have HT1:=hZq ht1;clear ht1;obtain ⟨F,hF⟩:∃ F,frO t1=F:=⟨_,rfl⟩;rw [hF] at PG;have HF:=hZq hF;clear hF;cases gone with
 | true =>
  have WC:=hZq (wot_any t p ka kn kc key val w1 HT.out HO.out HK.out bk);rw [HT1.out] at WC
  go_wp2_with fail
  refine WC.out.mono ?_;rintro en w2 ⟨q,b,rfl,ht2,hg2⟩;have T2:=hZq ht2;have G2:=hZq hg2;have e3:=keep1 d3 hg2;have e4:=keep1 d4 hg2;clear ht2 hg2 WC d0 d1 d2 d3 d4;go_upto_region 9 with (first | (go_at_call 27;refine (num10 _ _).mono ?_;rintro en wz ⟨rfl,hwz⟩;rw [hwz];clear hwz) | fail)
  cases mark with
  | false =>
   go_wp2;go_ret;exact ⟨q,t1,rfl,T2.out,by unfold ActR;rw [if_neg (by simp)];exact HT1.out.symm,gZq G0.out G2.out⟩
  | true =>
   have NC:=hZq (fun (W:World) (hW:w2.grownBy W none)=>numbersL_any t1 q W (T2.out.kept (FrT.of hW)) HS1.out.nq);have FC:=hZq (fun (W:World) (hW:w2.grownBy W none)=>tfresh_any t1 q W (T2.out.kept (FrT.of hW)) HS1.out.ok (by have:=PG.out;have:=HF.out;omega));rw [HF.out] at FC;go_upto_region 10 with fail
   go_region_held3 (fun w'=>w'.cell? ⟨B,4,none⟩=some (.int .i64 no)) (first | exact e4 | exact T5 | exact T6 | exact T7 | go_keep) (first
    | (go_at_call 24;refine (NC.out _ ((Qt.refl _).drew.grown none)).mono ?_;rintro en w5 ⟨na,nn,nc,has,rfl,hn5,hr5,hm5,hv5,hg5⟩;have H5:=hZq (show w2.grownBy w5 none from gZq ((Qt.refl _).drew.grown none) hg5);have N5:=hZq hn5;have M5:=hZq (And.intro hr5 hm5);clear hg5 hn5 hr5 hm5 hv5;have T5:=keep1 e4 H5.out)
    | (go_at_call 17;refine (FC.out _ H5.out).mono ?_;rintro en w6 ⟨rfl,hg6⟩;have H6:=hZq (gZq H5.out hg6);have N6:=hZq (EsT.kept N5.out (by decide) (FrT.of hg6));clear hg6;have T6:=keep1 e4 H6.out)
    | (go_at_call 25;refine (unlike_any na nn nc has no F _ N6.out (by have:=PG.out;omega)).mono ?_;rintro en w7 ⟨ua,un,uc,zs,rfl,hz7,hu7,hg7⟩;have H7:=hZq (gZq H6.out hg7);have N7:=hZq hz7;have U7:=hZq hu7;clear hg7 hz7 hu7;have T7:=keep1 e4 H7.out)
    | fail)
   have ul:=N7.out.num;have HUL:=hZq ul
   by_cases hun:un=F
   ·have hb:((un:Int) != (F:Int))=false:=by simp [hun]
    have TK:Hid (tkL (gatO t1) zs=true):=un_tk (lo:=no) M5.out.2 (by rw [HF.out];exact U7.out);have HLN:Hid (zs.length=F):=ul.trans hun;clear hun ul
    go_wp2_with fail
    refine (FC.out w7 H7.out).mono ?_;rintro en w8 ⟨rfl,hg8⟩;have H8:=hZq (gZq H7.out hg8);have N8:=hZq (EsT.kept N7.out (by decide) (FrT.of hg8));clear hg8;have NB:=hZq (numbered_any t1 q ua un uc zs w8 (T2.out.kept (FrT.of H8.out)) HS1.out.ok HS1.out.nq (by have:=PG.out;have:=HF.out;omega) N8.out (fun z hz=>by obtain ⟨h1,h2,_⟩:=tk_q TK.out z hz;omega))
    go_wp2_with fail
    refine NB.out.mono ?_;rintro en wb ⟨hen,hgb⟩;rw [if_pos ⟨by rw [HLN.out,HF.out],TK.out⟩] at hen;obtain ⟨q2,rfl,htb⟩:=hen;have TB:=hZq htb;have GB:=hZq (gZq (gZq G2.out H8.out) hgb);clear htb hgb NB
    go_wp2_with (first | (go_at_call 27;refine (num10 _ _).mono ?_;rintro en wz ⟨rfl,hwz⟩;rw [hwz];clear hwz) | fail)
    go_ret;exact ⟨q2,numO t1 zs,rfl,TB.out,by unfold ActR;rw [if_pos rfl,HT1.out];exact ⟨zs,by rw [HLN.out,HF.out],TK.out,rfl⟩,gZq G0.out GB.out⟩
   ·have hb:((un:Int) != (F:Int))=true:=by simp;omega
    clear hun ul
    go_wp2_with fail
    refine (FC.out w7 H7.out).mono ?_;rintro en w8 ⟨rfl,hg8⟩;have H8:=hZq (gZq H7.out hg8);clear hg8
    go_wp2_with fail
    refine (NC.out w8 H8.out).mono ?_;rintro en w9 ⟨na9,nn9,nc9,has9,rfl,hn9,hr9,hm9,hv9,hg9⟩;have H9:=hZq (gZq H8.out hg9);have N9:=hZq hn9;have M9:=hZq (And.intro hr9 hm9);clear hg9 hn9 hr9 hm9 hv9
    go_wp2_with fail
    refine (FC.out w9 H9.out).mono ?_;rintro en wa ⟨rfl,hga⟩;have Ha:=hZq (gZq H9.out hga);have Na:=hZq (EsT.kept N9.out (by decide) (FrT.of hga));clear hga
    go_wp2_with fail
    refine (unlike_any na9 nn9 nc9 has9 2 F wa Na.out (by have:=PG.out;omega)).mono ?_;rintro en w8 ⟨va8,vn8,vc8,zs,rfl,hz8,hu8,hg8⟩;have H8:=hZq (gZq Ha.out hg8);have N8:=hZq hz8;have TK:Hid (tkL (gatO t1) zs=true):=un_tk (lo:=2) M9.out.2 (by rw [HF.out];exact hu8);have HLN:Hid (zs.length=F):=un_full hu8 (by have:=has_le M9.out.1 M9.out.2;have:=PG.out;omega);clear hg8 hz8 hu8;have NB:=hZq (numbered_any t1 q va8 vn8 vc8 zs w8 (T2.out.kept (FrT.of H8.out)) HS1.out.ok HS1.out.nq (by have:=PG.out;have:=HF.out;omega) N8.out (fun z hz=>by obtain ⟨h1,h2,_⟩:=tk_q TK.out z hz;omega))
    go_wp2_with fail
    refine NB.out.mono ?_;rintro en wb ⟨hen,hgb⟩;rw [if_pos ⟨by rw [HLN.out,HF.out],TK.out⟩] at hen;obtain ⟨q2,rfl,htb⟩:=hen;have TB:=hZq htb;have GB:=hZq (gZq (gZq G2.out H8.out) hgb);clear htb hgb NB
    go_wp2_with (first | (go_at_call 27;refine (num10 _ _).mono ?_;rintro en wz ⟨rfl,hwz⟩;rw [hwz];clear hwz) | fail)
    go_ret;exact ⟨q2,numO t1 zs,rfl,TB.out,by unfold ActR;rw [if_pos rfl,HT1.out];exact ⟨zs,by rw [HLN.out,HF.out],TK.out,rfl⟩,gZq G0.out GB.out⟩
 | false =>
  have WC:=hZq (wit_any t p ka kn kc key va vn vc val w1 HT.out HO.out HK.out bk HV.out bv);rw [HT1.out] at WC;obtain ⟨bad,hbad⟩:∃ b,badB kn vn false=b:=⟨_,rfl⟩;rw [hbad] at WC;obtain ⟨ev,hev⟩:∃ ev:Int,(if bad=true then (41:Int) else 0)=ev:=⟨_,rfl⟩;rw [hev] at WC;have HEV:=hZq hev;have HBD:=hZq hbad;clear hev hbad
  go_wp2_with fail
  refine WC.out.mono ?_;rintro en w2 ⟨q,rfl,ht2,hg2⟩;have T2:=hZq ht2;have G2:=hZq hg2;have e0:=keep1 d0 hg2;have e1:=keep1 d1 hg2;have e3:=keep1 d3 hg2;have e4:=keep1 d4 hg2;clear ht2 hg2 WC d0 d1 d2 d3 d4;go_upto_region 5 with fail
  go_cut [9] from 32 to 48 (fun s9 wx=>s9=.bool bad/\wx=w2)
  case first =>
   by_cases b1:kn<1
   ·have k1:(kn:Int)<1:=by omega
    have HB:Hid (bad=true):=by show bad=true;rw [<- HBD.out];simp [badB,b1]
    go_wp2_with fail
    go_meet;exact ⟨by rw [HB.out],rfl⟩
   ·have k1:¬ (kn:Int)<1:=by omega
    by_cases b2:255<kn
    ·have k2:(255:Int)<(kn:Int):=by omega
     have HB:Hid (bad=true):=by show bad=true;rw [<- HBD.out];simp [badB,b2]
     go_wp2_with fail
     go_meet;exact ⟨by rw [HB.out],rfl⟩
    ·have k2:¬ (255:Int)<(kn:Int):=by omega
     by_cases b3:262144<vn
     ·have k3:(262144:Int)<(vn:Int):=by omega
      have HB:Hid (bad=true):=by show bad=true;rw [<- HBD.out];simp [badB,b3]
      go_wp2_with fail
      go_meet;exact ⟨by rw [HB.out],rfl⟩
     ·have k3:¬ (262144:Int)<(vn:Int):=by omega
      have HB:Hid (bad=false):=by
       show bad=false
       rw [<- HBD.out];unfold badB;rw [decide_eq_false b1,decide_eq_false b2,decide_eq_false b3]
       rfl
      go_wp2_with fail
      go_meet;exact ⟨by rw [HB.out],rfl⟩
  case rest =>
   obtain ⟨rfl,rfl⟩:=hcut;clear e0 e1;cases bad with
   | true =>
    have hev:ev=41:=by have:=HEV.out;simpa using this.symm
    subst hev;go_upto_region 9 with (first | (go_at_call 27;refine (num10 _ _).mono ?_;rintro en wz ⟨rfl,hwz⟩;rw [hwz];clear hwz) | fail)
    cases mark with
    | false =>
     go_wp2;go_ret;exact ⟨q,t1,rfl,T2.out,by unfold ActR;rw [if_neg (by simp)];exact HT1.out.symm,gZq G0.out G2.out⟩
    | true =>
     have NC:=hZq (fun (W:World) (hW:wc.grownBy W none)=>numbersL_any t1 q W (T2.out.kept (FrT.of hW)) HS1.out.nq);have FC:=hZq (fun (W:World) (hW:wc.grownBy W none)=>tfresh_any t1 q W (T2.out.kept (FrT.of hW)) HS1.out.ok (by have:=PG.out;have:=HF.out;omega));rw [HF.out] at FC;go_upto_region 10 with fail
     go_region_held3 (fun w'=>w'.cell? ⟨B,4,none⟩=some (.int .i64 no)) (first | exact e4 | exact T5 | exact T6 | exact T7 | go_keep) (first
      | (go_at_call 24;refine (NC.out _ ((Qt.refl _).drew.grown none)).mono ?_;rintro en w5 ⟨na,nn,nc,has,rfl,hn5,hr5,hm5,hv5,hg5⟩;have H5:=hZq (show wc.grownBy w5 none from gZq ((Qt.refl _).drew.grown none) hg5);have N5:=hZq hn5;have M5:=hZq (And.intro hr5 hm5);clear hg5 hn5 hr5 hm5 hv5;have T5:=keep1 e4 H5.out)
      | (go_at_call 17;refine (FC.out _ H5.out).mono ?_;rintro en w6 ⟨rfl,hg6⟩;have H6:=hZq (gZq H5.out hg6);have N6:=hZq (EsT.kept N5.out (by decide) (FrT.of hg6));clear hg6;have T6:=keep1 e4 H6.out)
      | (go_at_call 25;refine (unlike_any na nn nc has no F _ N6.out (by have:=PG.out;omega)).mono ?_;rintro en w7 ⟨ua,un,uc,zs,rfl,hz7,hu7,hg7⟩;have H7:=hZq (gZq H6.out hg7);have N7:=hZq hz7;have U7:=hZq hu7;clear hg7 hz7 hu7;have T7:=keep1 e4 H7.out)
      | fail)
     have ul:=N7.out.num;have HUL:=hZq ul
     by_cases hun:un=F
     ·have hb:((un:Int) != (F:Int))=false:=by simp [hun]
      have TK:Hid (tkL (gatO t1) zs=true):=un_tk (lo:=no) M5.out.2 (by rw [HF.out];exact U7.out);have HLN:Hid (zs.length=F):=ul.trans hun;clear hun ul
      go_wp2_with fail
      refine (FC.out w7 H7.out).mono ?_;rintro en w8 ⟨rfl,hg8⟩;have H8:=hZq (gZq H7.out hg8);have N8:=hZq (EsT.kept N7.out (by decide) (FrT.of hg8));clear hg8;have NB:=hZq (numbered_any t1 q ua un uc zs w8 (T2.out.kept (FrT.of H8.out)) HS1.out.ok HS1.out.nq (by have:=PG.out;have:=HF.out;omega) N8.out (fun z hz=>by obtain ⟨h1,h2,_⟩:=tk_q TK.out z hz;omega))
      go_wp2_with fail
      refine NB.out.mono ?_;rintro en wb ⟨hen,hgb⟩;rw [if_pos ⟨by rw [HLN.out,HF.out],TK.out⟩] at hen;obtain ⟨q2,rfl,htb⟩:=hen;have TB:=hZq htb;have GB:=hZq (gZq (gZq G2.out H8.out) hgb);clear htb hgb NB
      go_wp2_with (first | (go_at_call 27;refine (num10 _ _).mono ?_;rintro en wz ⟨rfl,hwz⟩;rw [hwz];clear hwz) | fail)
      go_ret;exact ⟨q2,numO t1 zs,rfl,TB.out,by unfold ActR;rw [if_pos rfl,HT1.out];exact ⟨zs,by rw [HLN.out,HF.out],TK.out,rfl⟩,gZq G0.out GB.out⟩
     ·have hb:((un:Int) != (F:Int))=true:=by simp;omega
      clear hun ul
      go_wp2_with fail
      refine (FC.out w7 H7.out).mono ?_;rintro en w8 ⟨rfl,hg8⟩;have H8:=hZq (gZq H7.out hg8);clear hg8
      go_wp2_with fail
      refine (NC.out w8 H8.out).mono ?_;rintro en w9 ⟨na9,nn9,nc9,has9,rfl,hn9,hr9,hm9,hv9,hg9⟩;have H9:=hZq (gZq H8.out hg9);have N9:=hZq hn9;have M9:=hZq (And.intro hr9 hm9);clear hg9 hn9 hr9 hm9 hv9
      go_wp2_with fail
      refine (FC.out w9 H9.out).mono ?_;rintro en wa ⟨rfl,hga⟩;have Ha:=hZq (gZq H9.out hga);have Na:=hZq (EsT.kept N9.out (by decide) (FrT.of hga));clear hga
      go_wp2_with fail
      refine (unlike_any na9 nn9 nc9 has9 2 F wa Na.out (by have:=PG.out;omega)).mono ?_;rintro en w8 ⟨va8,vn8,vc8,zs,rfl,hz8,hu8,hg8⟩;have H8:=hZq (gZq Ha.out hg8);have N8:=hZq hz8;have TK:Hid (tkL (gatO t1) zs=true):=un_tk (lo:=2) M9.out.2 (by rw [HF.out];exact hu8);have HLN:Hid (zs.length=F):=un_full hu8 (by have:=has_le M9.out.1 M9.out.2;have:=PG.out;omega);clear hg8 hz8 hu8;have NB:=hZq (numbered_any t1 q va8 vn8 vc8 zs w8 (T2.out.kept (FrT.of H8.out)) HS1.out.ok HS1.out.nq (by have:=PG.out;have:=HF.out;omega) N8.out (fun z hz=>by obtain ⟨h1,h2,_⟩:=tk_q TK.out z hz;omega))
      go_wp2_with fail
      refine NB.out.mono ?_;rintro en wb ⟨hen,hgb⟩;rw [if_pos ⟨by rw [HLN.out,HF.out],TK.out⟩] at hen;obtain ⟨q2,rfl,htb⟩:=hen;have TB:=hZq htb;have GB:=hZq (gZq (gZq G2.out H8.out) hgb);clear htb hgb NB
      go_wp2_with (first | (go_at_call 27;refine (num10 _ _).mono ?_;rintro en wz ⟨rfl,hwz⟩;rw [hwz];clear hwz) | fail)
      go_ret;exact ⟨q2,numO t1 zs,rfl,TB.out,by unfold ActR;rw [if_pos rfl,HT1.out];exact ⟨zs,by rw [HLN.out,HF.out],TK.out,rfl⟩,gZq G0.out GB.out⟩
   | false =>
    have hev:ev=0:=by have:=HEV.out;simpa using this.symm
    subst hev;go_upto_region 9 with (first | (go_at_call 27;refine (num10 _ _).mono ?_;rintro en wz ⟨rfl,hwz⟩;rw [hwz];clear hwz) | fail)
    cases mark with
    | false =>
     go_wp2;go_ret;exact ⟨q,t1,rfl,T2.out,by unfold ActR;rw [if_neg (by simp)];exact HT1.out.symm,gZq G0.out G2.out⟩
    | true =>
     have NC:=hZq (fun (W:World) (hW:wc.grownBy W none)=>numbersL_any t1 q W (T2.out.kept (FrT.of hW)) HS1.out.nq);have FC:=hZq (fun (W:World) (hW:wc.grownBy W none)=>tfresh_any t1 q W (T2.out.kept (FrT.of hW)) HS1.out.ok (by have:=PG.out;have:=HF.out;omega));rw [HF.out] at FC;go_upto_region 10 with fail
     go_region_held3 (fun w'=>w'.cell? ⟨B,4,none⟩=some (.int .i64 no)) (first | exact e4 | exact T5 | exact T6 | exact T7 | go_keep) (first
      | (go_at_call 24;refine (NC.out _ ((Qt.refl _).drew.grown none)).mono ?_;rintro en w5 ⟨na,nn,nc,has,rfl,hn5,hr5,hm5,hv5,hg5⟩;have H5:=hZq (show wc.grownBy w5 none from gZq ((Qt.refl _).drew.grown none) hg5);have N5:=hZq hn5;have M5:=hZq (And.intro hr5 hm5);clear hg5 hn5 hr5 hm5 hv5;have T5:=keep1 e4 H5.out)
      | (go_at_call 17;refine (FC.out _ H5.out).mono ?_;rintro en w6 ⟨rfl,hg6⟩;have H6:=hZq (gZq H5.out hg6);have N6:=hZq (EsT.kept N5.out (by decide) (FrT.of hg6));clear hg6;have T6:=keep1 e4 H6.out)
      | (go_at_call 25;refine (unlike_any na nn nc has no F _ N6.out (by have:=PG.out;omega)).mono ?_;rintro en w7 ⟨ua,un,uc,zs,rfl,hz7,hu7,hg7⟩;have H7:=hZq (gZq H6.out hg7);have N7:=hZq hz7;have U7:=hZq hu7;clear hg7 hz7 hu7;have T7:=keep1 e4 H7.out)
      | fail)
     have ul:=N7.out.num;have HUL:=hZq ul
     by_cases hun:un=F
     ·have hb:((un:Int) != (F:Int))=false:=by simp [hun]
      have TK:Hid (tkL (gatO t1) zs=true):=un_tk (lo:=no) M5.out.2 (by rw [HF.out];exact U7.out);have HLN:Hid (zs.length=F):=ul.trans hun;clear hun ul
      go_wp2_with fail
      refine (FC.out w7 H7.out).mono ?_;rintro en w8 ⟨rfl,hg8⟩;have H8:=hZq (gZq H7.out hg8);have N8:=hZq (EsT.kept N7.out (by decide) (FrT.of hg8));clear hg8;have NB:=hZq (numbered_any t1 q ua un uc zs w8 (T2.out.kept (FrT.of H8.out)) HS1.out.ok HS1.out.nq (by have:=PG.out;have:=HF.out;omega) N8.out (fun z hz=>by obtain ⟨h1,h2,_⟩:=tk_q TK.out z hz;omega))
      go_wp2_with fail
      refine NB.out.mono ?_;rintro en wb ⟨hen,hgb⟩;rw [if_pos ⟨by rw [HLN.out,HF.out],TK.out⟩] at hen;obtain ⟨q2,rfl,htb⟩:=hen;have TB:=hZq htb;have GB:=hZq (gZq (gZq G2.out H8.out) hgb);clear htb hgb NB
      go_wp2_with (first | (go_at_call 27;refine (num10 _ _).mono ?_;rintro en wz ⟨rfl,hwz⟩;rw [hwz];clear hwz) | fail)
      go_ret;exact ⟨q2,numO t1 zs,rfl,TB.out,by unfold ActR;rw [if_pos rfl,HT1.out];exact ⟨zs,by rw [HLN.out,HF.out],TK.out,rfl⟩,gZq G0.out GB.out⟩
     ·have hb:((un:Int) != (F:Int))=true:=by simp;omega
      clear hun ul
      go_wp2_with fail
      refine (FC.out w7 H7.out).mono ?_;rintro en w8 ⟨rfl,hg8⟩;have H8:=hZq (gZq H7.out hg8);clear hg8
      go_wp2_with fail
      refine (NC.out w8 H8.out).mono ?_;rintro en w9 ⟨na9,nn9,nc9,has9,rfl,hn9,hr9,hm9,hv9,hg9⟩;have H9:=hZq (gZq H8.out hg9);have N9:=hZq hn9;have M9:=hZq (And.intro hr9 hm9);clear hg9 hn9 hr9 hm9 hv9
      go_wp2_with fail
      refine (FC.out w9 H9.out).mono ?_;rintro en wa ⟨rfl,hga⟩;have Ha:=hZq (gZq H9.out hga);have Na:=hZq (EsT.kept N9.out (by decide) (FrT.of hga));clear hga
      go_wp2_with fail
      refine (unlike_any na9 nn9 nc9 has9 2 F wa Na.out (by have:=PG.out;omega)).mono ?_;rintro en w8 ⟨va8,vn8,vc8,zs,rfl,hz8,hu8,hg8⟩;have H8:=hZq (gZq Ha.out hg8);have N8:=hZq hz8;have TK:Hid (tkL (gatO t1) zs=true):=un_tk (lo:=2) M9.out.2 (by rw [HF.out];exact hu8);have HLN:Hid (zs.length=F):=un_full hu8 (by have:=has_le M9.out.1 M9.out.2;have:=PG.out;omega);clear hg8 hz8 hu8;have NB:=hZq (numbered_any t1 q va8 vn8 vc8 zs w8 (T2.out.kept (FrT.of H8.out)) HS1.out.ok HS1.out.nq (by have:=PG.out;have:=HF.out;omega) N8.out (fun z hz=>by obtain ⟨h1,h2,_⟩:=tk_q TK.out z hz;omega))
      go_wp2_with fail
      refine NB.out.mono ?_;rintro en wb ⟨hen,hgb⟩;rw [if_pos ⟨by rw [HLN.out,HF.out],TK.out⟩] at hen;obtain ⟨q2,rfl,htb⟩:=hen;have TB:=hZq htb;have GB:=hZq (gZq (gZq G2.out H8.out) hgb);clear htb hgb NB
      go_wp2_with (first | (go_at_call 27;refine (num10 _ _).mono ?_;rintro en wz ⟨rfl,hwz⟩;rw [hwz];clear hwz) | fail)
      go_ret;exact ⟨q2,numO t1 zs,rfl,TB.out,by unfold ActR;rw [if_pos rfl,HT1.out];exact ⟨zs,by rw [HLN.out,HF.out],TK.out,rfl⟩,gZq G0.out GB.out⟩
theorem conv10 (W:World)(C:Array Value)(n c k:Nat)(hk:k=W.heap.size) :
  (convert 30 30 (.slice (some ⟨k,0,none⟩) n c)).run Tryz.prog (W.alloc (.cells C 5))=.ok (.slice (some ⟨k,0,none⟩) n c) (W.alloc (.cells C 5 (C.size,C.size+1))):=by
 subst hk;exact Lib.run_convert_bytes_const (P:=Tryz.prog) W 30 5 C n c Tryz.underlying30 Tryz.underlying5
theorem lit10 (w:World)(e:TypeId)(fr:Nat × Nat)(z:Int):Byt (w.alloc (.cells #[.int .u8 z] e fr)) (some ⟨w.heap.size,0,none⟩) 1 1 [z]:=by
 refine Byt.of_cells rfl fun i hi=>?_
 have hi0:i=0:=by simpa using hi
 subst hi0;rw [cell_of_row (w.alloc (.cells #[.int .u8 z] e fr)) w.heap.size 0 _ e fr (heap_alloc_new w _)]
 rfl
theorem empty10 (w:World):Calls Tryz.prog 7 #[] w fun en w'=>∃ p,en=.returned (.pointer (some ⟨p,0,none⟩))/\TreeT w' p none/\w.grownBy w' none:=by
 go_enter Tryz.func7,Tryz.ntmps7;go_wp2;go_ret;exact ⟨_,rfl,⟨_,_,_,_,_,_,heap_at0 w _ _,rfl⟩,World.grownBy_alloc w _ none⟩
theorem set_byte {n k:Nat}{x:Int}(hk:k<n):((List.replicate k x++List.replicate (n - k) (0:Int)).map (Value.int .u8)).set k (.int .u8 x)=(List.replicate (k+1) x++List.replicate (n - (k+1)) (0:Int)).map (Value.int .u8):=by
 rw [List.map_append,List.set_append,if_neg (by simp),List.length_map,List.length_replicate,Nat.sub_self,show n - k=(n - (k+1))+1 by omega,List.replicate_succ,List.map_cons,List.set_cons_zero,List.replicate_succ',List.map_append,List.map_append];simp
theorem value10 (n:Nat)(x:Int)(w:World)(hn:n<=100000) :
  Calls Tryz.prog 33 #[.int .i64 (n:Nat),.int .u8 x] w fun en w'=>∃ g,en=.returned (.slice (some ⟨g,0,none⟩) n n)/\Byt w' (some ⟨g,0,none⟩) n n (List.replicate n x)/\w.grownBy w' none:=by
 obtain ⟨i0,hi,hz0,hz1,hz2⟩:=info_parts info_u8;go_enter Tryz.func33,Tryz.ntmps33
 go_wp2_with (at_make;refine wpList_make_full _ rfl _ _ 30 rfl w.heap.size 5 i0 (.int .u8 0) 1 Tryz.underlying30 hi hz0 hz1 _ _ _ _ n rfl rfl rfl rfl ?b2 ?b3 (Nat.le_refl _) ?_)
 case b2=>rw [hz2];omega
 case b3=>unfold maxLen;omega
 intro w3 ho3 hg3;obtain ⟨g,hg⟩:∃ g,w.heap.size=g:=⟨_,rfl⟩
 have O3:Hid (w3.ownsRow g 5 1 (.slice (some ⟨g,0,none⟩) n n) n ((List.replicate 0 x++List.replicate (n - 0) (0:Int)).map (Value.int .u8))):=by
  have ho4:=ho3
  (try rw [Nat.mul_one] at ho4)
  (try rw [show (Value.int IntKind.u8 0).cells=#[Value.int IntKind.u8 0] from rfl] at ho4)
  rw [toList_madeCells_one,hg] at ho4
  show w3.ownsRow _ _ _ _ _ _
  simpa using ho4
 rw [hg];have G3:=hZq hg3;have HG:=hZq hg;clear ho3 hg3 hg
 go_wp2_with fail
 go_loopw [6] (fun s6 wr=>∃ k:Nat,k<=n/\s6=.int .i64 (k:Nat)/\wr.ownsRow g 5 1 (.slice (some ⟨g,0,none⟩) n n) n ((List.replicate k x++List.replicate (n - k) (0:Int)).map (Value.int .u8))/\w.grownBy wr none) (fun s6 _=>n - (intOf s6).toNat)
 case atStart=>exact ⟨0,Nat.zero_le _,rfl,O3.out,G3.out⟩
 case round =>
  obtain ⟨k,hk,rfl,ho,hgr⟩:=hrel;have HO:=hZq ho;have GR:=hZq hgr;clear ho hgr
  by_cases hlt:k<n
  ·have i0:(0:Int)<=(k:Int):=by omega
   have i1:(k:Int)<(n:Int):=by omega
   have f5:=HO.out.frozenAt k
   obtain ⟨u0,c5⟩:∃ u0,wr.cell? ⟨g,k,none⟩=some u0:=by
    rw [HO.out.cellAt k (by omega)];exact ⟨_,List.getElem?_eq_getElem (by have:=HO.out.1;omega)⟩
   have ST:=hZq (HO.out.stored k (.int .u8 x));rw [set_byte hlt] at ST
   go_wp2_with fail
   go_roundw
   case rel=>exact ⟨k+1,by omega,by go_num,ST.out.1,grown_new GR.out ST.out.2 (by have:=HG.out;omega)⟩
   case measure=>simp [intOf];omega
  ·have hk2:k=n:=by omega
   subst hk2;have i1:¬ (k:Int)<(k:Int):=by omega
   go_wp2;go_ret;refine ⟨g,rfl,?_,GR.out⟩;have h1:=HO.out;rw [Nat.sub_self,List.replicate_zero,List.append_nil] at h1;exact Byt.of_owns h1
theorem bt_rep {n:Nat}{x:Int}(hx:0<=x/\x<256):Bt (List.replicate n x):=by
 intro z hz;rw [List.eq_of_mem_replicate hz];omega
theorem tf_step {k:Nat}(h:k<9)(hs:SdT (TF k)):treeT (TF k) (pF k).key [pF k]=some (TF (k+1))/\SdT (TF (k+1)):=by
 have h1:=tf_some k h;obtain ⟨u,hu⟩:=Option.isSome_iff_exists.1 h1;have e:TF (k+1)=u:=by rw [TF,hu];rfl
 have hn:NowT (pF k).key [pF k]:=⟨by simp,fun p hp=>by rw [List.mem_singleton.1 hp],fun p hp=>by
  rw [List.mem_singleton.1 hp];exact ⟨Nat.le_refl 1,by show 1<=255;omega,by show (List.replicate 500 (k:Int)).length<=262144;rw [List.length_replicate];omega,(fun z hz=>by have hz':z∈[97+(k:Int)]:=hz;rw [List.mem_singleton.1 hz'];omega),bt_rep (by omega)⟩⟩
 rw [e];exact ⟨hu,(hs.change hn (fun p hp=>by rw [List.mem_singleton.1 hp];rfl) hu).1⟩
theorem wf_step {k:Nat}(h:k<4)(hs:SdT (WF k)):treeT (WF k) (pF (k+4)).key []=some (WF (k+1))/\SdT (WF (k+1)):=by
 have h1:=wf_some k h;obtain ⟨u,hu⟩:=Option.isSome_iff_exists.1 h1;have e:WF (k+1)=u:=by rw [WF,hu];rfl
 have hn:NowT (pF (k+4)).key []:=⟨by simp,(fun p hp=>by cases hp),(fun p hp=>by cases hp)⟩;rw [e];exact ⟨hu,(hs.change hn (fun p hp=>(by cases hp)) hu).1⟩
theorem told3 {xs:List NoT}(h:xs.map (fun x=>(x.ps.length,x.ss))=[(4,[]),(5,[]),(0,[[101]])]):∃ x0 x1 x2,xs=[x0,x1,x2]/\x0.ps.length=4/\x1.ps.length=5/\x2.ss=[[101]]:=by
 match xs,h with
 | [x0,x1,x2],h =>
  simp only [List.map_cons,List.map_nil,List.cons.injEq,Prod.mk.injEq,and_true] at h;exact ⟨x0,x1,x2,rfl,h.1.1,h.2.1.1,h.2.2.2⟩
 | [],h=>simp at h
 | [_],h=>simp at h
 | [_,_],h=>simp at h
 | _::_::_::_::_,h=>simp at h
theorem len3 {T:Type}{L:List T}(h:L.length=3):∃ a b c,L=[a,b,c]:=by
 match L,h with
 | [a,b,c],_=>exact ⟨a,b,c,rfl⟩
 | [],h=>simp at h
 | [_],h=>simp at h
 | [_,_],h=>simp at h
 | _::_::_::_::_,h=>simp at h
theorem cells3 {w:World}{lb lo hi g c:Nat}{es:List (List Value)}{xs:List NoT}(h:xs.map (fun x=>(x.ps.length,x.ss))=[(4,[]),(5,[]),(0,[[101]])])(ho:w.ownsRow lb 54 6 (.slice (some ⟨g,0,none⟩) 3 c) 3 es.flatten)(ht:ToM w lb es xs lo hi) :
  ∃ a0 c0 a1 c1 sb so sc ao d,w.cell? ⟨g,2,none⟩=some (.slice a0 4 c0)/\w.cell? ⟨g,8,none⟩=some (.slice a1 5 c1)/\w.cell? ⟨g,16,none⟩=some (.slice (some ⟨sb,so,none⟩) 1 sc)/\w.cell? ⟨sb,so,none⟩=some (.slice ao 1 d)/\Byt w ao 1 d [101]:=by
 obtain ⟨x0,x1,x2,rfl,h0,h1,h2⟩:=told3 h;clear h;have hsz:=ht.sz;obtain ⟨e0,e1,e2,rfl⟩:=len3 (L:=es) (by have:=ht.len;simpa using this)
 ·obtain ⟨m0,_,_,n0,m1,_,_,n1,m2,_,_,n2,_⟩:=ht
  obtain ⟨vp0,q0,ca0,cn0,cc0,sa0,sn0,sc0,ka0,kn0,kc0,rfl,o0,_⟩:=n0;obtain ⟨vp1,q1,ca1,cn1,cc1,sa1,sn1,sc1,ka1,kn1,kc1,rfl,o1,_⟩:=n1;obtain ⟨vp2,q2,ca2,cn2,cc2,sa2,sn2,sc2,ka2,kn2,kc2,rfl,o2,_,_,_,s2,_⟩:=n2;obtain ⟨a0,c0,r0⟩:=own_shape10 o0;obtain ⟨a1,c1,r1⟩:=own_shape10 o1;rw [h0] at r0;rw [h1] at r1;rw [h2] at s2;have sl:=s2.len;obtain ⟨sb,so,ao,m,d,rfl,k1,k2⟩:=s2.str (i:=0) (x:=[101]) rfl;have hm:m=1:=by have:=k2.b.len;simpa using this.symm
  subst hm;have hs:sn2=1:=by simpa using sl.symm
  subst hs r0 r1;have c2:=(ho.cellAt (0*6+2) (by omega)).trans (flat_at (i:=0) (f:=2) hsz rfl rfl);have c8:=(ho.cellAt (1*6+2) (by omega)).trans (flat_at (i:=1) (f:=2) hsz rfl rfl);have c16:=(ho.cellAt (2*6+4) (by omega)).trans (flat_at (i:=2) (f:=4) hsz rfl rfl);exact ⟨a0,c0,a1,c1,sb,so,sc2,ao,d,c2,c8,c16,k1,k2.b⟩
theorem first10 (w:World):Calls Tryz.prog 6 #[] w fun en w'=>en=.returned (.bool true)/\w.grownBy w' none:=by
 have v1:=fun (W:World) (C:Array Value) (n c:Nat)=>conv10 W C n c _ rfl
 go_enter Tryz.func6,Tryz.ntmps6
 go_wp2_with fail
 refine (empty10 w).mono ?_;rintro en w1 ⟨p0,rfl,ht0,hg0⟩;have T0:=hZq ht0;have G0:=hZq hg0;clear ht0 hg0
 go_upto_block 0 with fail
 go_cut [1,2,3,4] from 13 to 37 (fun s1 _ _ _ wx=>∃ p,s1=.pointer (some ⟨p,0,none⟩)/\TreeT wx p (TF 9)/\SdT (TF 9)/\w.grownBy wx none)
 case first =>
  go_wp2_with fail
  go_loopw [1,2,3,4] (fun s1 s2 _ _ wr=>∃ k p:Nat,k<=9/\s1=.pointer (some ⟨p,0,none⟩)/\s2=.int .i64 (k:Nat)/\TreeT wr p (TF k)/\SdT (TF k)/\w.grownBy wr none) (fun _ s2 _ _ _=>9 - (intOf s2).toNat)
  case atStart=>exact ⟨0,p0,by omega,rfl,rfl,T0.out,SdT.start,G0.out⟩
  case round =>
   obtain ⟨k,p,hk,rfl,rfl,ht,hs,hg⟩:=hrel;have HT:=hZq ht;have HS:=hZq hs;have HG:=hZq hg;clear ht hs hg
   by_cases hlt:k<9
   ·have i1:(k:Int)<9:=by omega
    have c1:IntKind.u8.wrap (97+(k:Int))=97+(k:Int):=by rw [IntKind.wrap_u8];omega
    have c2:IntKind.u8.wrap (k:Int)=(k:Int):=by rw [IntKind.wrap_u8];omega
    have ga:=World.grownBy_alloc wr (.cells #[.int .u8 (97+(k:Int))] 5) none;have KB:=hZq (lit10 wr 5 (0,0) (97+(k:Int)));have GA:=hZq ga;have ST:=hZq (tf_step hlt HS.out);clear ga
    go_wp2_with fail
    refine (value10 500 (k:Int) _ (by omega)).mono ?_;rintro en w2 ⟨g2,rfl,hb2,hg2⟩;have V2:=hZq hb2;have K2:=hZq (KB.out.keptN hg2);have G2:=hZq (gZq HG.out (gZq GA.out hg2));have T2:=hZq (HT.out.kept (FrT.of (gZq GA.out hg2)));clear hb2 hg2;have WC:=hZq (with_any changedC (TF k) p (some ⟨wr.heap.size,0,none⟩) 1 1 [97+(k:Int)] (some ⟨g2,0,none⟩) 500 500 (List.replicate 500 (k:Int)) w2 T2.out HS.out.ok K2.out (fun z hz=>by rw [List.mem_singleton.1 hz];omega) V2.out (by omega) (by omega) (by omega) ?hnow)
    case hnow =>
     exact ⟨by simp,fun q hq=>by rw [List.mem_singleton.1 hq],fun q hq=>by
      rw [List.mem_singleton.1 hq];exact ⟨Nat.le_refl 1,by show 1<=255;omega,by show (List.replicate 500 (k:Int)).length<=262144;rw [List.length_replicate];omega,(fun z hz=>by have hz':z∈[97+(k:Int)]:=hz;rw [List.mem_singleton.1 hz'];omega),bt_rep (by omega)⟩⟩
    have HE:Hid (treeT (TF k) [97+(k:Int)] [⟨[97+(k:Int)],List.replicate 500 (k:Int),[]⟩]=some (TF (k+1))):=ST.out.1;rw [HE.out] at WC
    go_wp2_with fail
    refine WC.out.mono ?_;rintro en w3 ⟨⟨q,rfl,ht3⟩,hg3⟩;have T3:=hZq ht3;have G3:=hZq (gZq G2.out hg3);clear ht3 hg3 WC
    go_wp2_with (first | (go_at_call 27;refine (num10 _ _).mono ?_;rintro en wz ⟨rfl,hwz⟩;rw [hwz];clear hwz) | fail)
    go_roundw
    case rel=>exact ⟨k+1,q,by omega,rfl,by go_num,T3.out,ST.out.2,G3.out⟩
    case measure=>simp [intOf];omega
   ·have hk2:k=9:=by omega
    have i1:¬ (k:Int)<9:=by omega
    go_wp2_with fail
    go_meet;subst hk2;exact ⟨p,rfl,HT.out,HS.out,HG.out⟩
 case rest =>
  obtain ⟨p,rfl,ht,hs,hg⟩:=hcut;have a1:=tf9_high;have a2:=tf9_fresh;have a3:=tf9_len;have a4:=tf9_tell;have a5:WF 0=TF 9:=rfl;obtain ⟨T9,hT9⟩:∃ T,TF 9=T:=⟨_,rfl⟩;rw [hT9] at a1 a2 a3 a4 a5 ht hs;have HT:=hZq ht;have HS:=hZq hs;have HG:=hZq hg;have A5:=hZq a5;have HH:=hZq (fun (W:World) (h:wc.grownBy W none)=>height_any T9 p W (ht.kept (FrT.of h)) hs.ok (by omega));have HF:=hZq (fun (W:World) (h:wc.grownBy W none)=>tfresh_any T9 p W (ht.kept (FrT.of h)) hs.ok (by omega));have HL:=hZq (fun (W:World) (h:wc.grownBy W none)=>len_any T9 p W (ht.kept (FrT.of h)) hs.ok (by omega));have tl:(tellO T9).length=3:=by have:=congrArg List.length a4;simpa using this
  have HN:=hZq (fun (W:World) (h:wc.grownBy W none)=>nodes_any T9 p W (ht.kept (FrT.of h)) hs.ok hs.chk (by omega) (by omega));rw [a1] at HH;rw [a2] at HF;rw [a3] at HL;rw [tl] at HN;have A4:=hZq a4;clear ht hs hg a1 a2 a3 a4 a5 tl hT9
  go_wp2_with fail
  refine (HH.out _ (World.grownBy.refl _ _)).mono ?_;rintro en w2 ⟨rfl,hg2⟩;have G2:=hZq hg2;clear hg2
  go_wp2_with fail
  refine (HF.out _ G2.out).mono ?_;rintro en w3 ⟨rfl,hg3⟩;have G3:=hZq (gZq G2.out hg3);clear hg3
  go_wp2_with fail
  refine (HL.out _ G3.out).mono ?_;rintro en w4 ⟨rfl,hg4⟩;have G4:=hZq (gZq G3.out hg4);clear hg4
  go_wp2_with fail
  refine (HN.out _ G4.out).mono ?_;rintro en w5 ⟨v5,es5,rfl,ho5,ht5,hg5⟩
  obtain ⟨g5,c5,cur5,rfl,_⟩:∃ g c cur,v5=.slice (some ⟨g,0,none⟩) 3 c/\w5.heap[g]?=some (.cells cur 54 (0,0)):=by
   rcases ho5.2 with ⟨_,h⟩ | ⟨g,cap,cur,h1,h2,h3,_⟩
   ·omega
   ·exact ⟨g,cap,cur,h1,h3⟩
  obtain ⟨q0,r0,q1,r1,sb,so,sc,ao,d,x1,x2,x3,x4,x5⟩:=cells3 A4.out ho5 ht5;have G5:=hZq (gZq G4.out hg5);have X5:=hZq x5;have hst:strOfNums [101]=ByteArray.mk #[101]:=by rfl
  have hcs:=conv_str x5;rw [hst] at hcs;clear ho5 ht5 hg5 x5 hst HH HF HL HN A4
  go_upto_block 2 with fail
  go_cut [1,6,7,8] from 93 to 113 (fun s1 _ _ _ wx=>∃ p,s1=.pointer (some ⟨p,0,none⟩)/\TreeT wx p (WF 4)/\SdT (WF 4)/\w.grownBy wx none)
  case first =>
   go_wp2_with fail
   go_loopw [1,6,7,8] (fun s1 s6 _ _ wr=>∃ j p:Nat,j<=4/\s1=.pointer (some ⟨p,0,none⟩)/\s6=.int .i64 ((j+4:Nat):Int)/\TreeT wr p (WF j)/\SdT (WF j)/\w.grownBy wr none) (fun _ s6 _ _ _=>8 - (intOf s6).toNat)
   case atStart=>exact ⟨0,p,by omega,rfl,rfl,by rw [A5.out];exact HT.out.kept (FrT.of G5.out),by rw [A5.out];exact HS.out,gZq HG.out G5.out⟩
   case round =>
    obtain ⟨j,p,hj,rfl,rfl,ht,hs,hg⟩:=hrel;have HT:=hZq ht;have HS:=hZq hs;have HG:=hZq hg;clear ht hs hg
    by_cases hlt:j<4
    ·have ST:=hZq (wf_step hlt HS.out)
     obtain ⟨i,hi⟩:∃ i:Nat,j+4=i:=⟨_,rfl⟩
     have HE:Hid (treeT (WF j) [97+(i:Int)] []=some (WF (j+1))):=by
      show _=_
      rw [<- hi];exact ST.out.1
     rw [hi];have i1:(i:Int)<8:=by omega
     have c1:IntKind.u8.wrap (97+(i:Int))=97+(i:Int):=by rw [IntKind.wrap_u8];omega
     have ga:=World.grownBy_alloc wr (.cells #[.int .u8 (97+(i:Int))] 5) none;have KB:=hZq (lit10 wr 5 (0,0) (97+(i:Int)));have WC:=hZq (without_any changedC (WF j) p (some ⟨wr.heap.size,0,none⟩) 1 1 [97+(i:Int)] _ (HT.out.kept (FrT.of ga)) HS.out.ok KB.out (fun z hz=>by rw [List.mem_singleton.1 hz];omega));rw [HE.out] at WC;have GA:=hZq ga;have HI:=hZq hi;clear ga hi
     go_wp2_with fail
     refine WC.out.mono ?_;rintro en w3 ⟨⟨q,rfl,ht3⟩,hg3⟩;have T3:=hZq ht3;have G3:=hZq (gZq HG.out (gZq GA.out hg3));clear ht3 hg3 WC
     go_wp2_with fail
     go_roundw
     case rel=>exact ⟨j+1,q,by omega,rfl,by have:=HI.out;go_num,T3.out,ST.out.2,G3.out⟩
     case measure=>have:=HI.out;simp [intOf];omega
    ·have hj2:j=4:=by omega
     have i1:¬ ((j+4:Nat):Int)<8:=by omega
     obtain ⟨i,hi⟩:∃ i:Nat,j+4=i:=⟨_,rfl⟩;rw [hi] at i1 ⊢;clear hi
     go_wp2_with fail
     go_meet;subst hj2;exact ⟨p,rfl,HT.out,HS.out,HG.out⟩
  case rest =>
   obtain ⟨p2,rfl,ht,hs,hg⟩:=hcut;clear x1 x2 x3 x4 hcs X5 G2 G3 G4 G5 HT HS HG A5;have a1:=wf4_high;have a3:=wf4_len;have a4:=wf4_get;obtain ⟨T4,hT4⟩:∃ T,WF 4=T:=⟨_,rfl⟩;rw [hT4] at a1 a3 a4 ht hs;have GC:=hZq (fun (W:World) (h:wc.grownBy W none) (ka:Option Addr) (kc:Nat) (hk:Byt W ka 1 kc [105])=>tget_any T4 p2 ka 1 kc [105] W (ht.kept (FrT.of h)) hs.ok hk (fun z hz=>by rw [List.mem_singleton.1 hz];omega));have HH:=hZq (fun (W:World) (h:wc.grownBy W none)=>height_any T4 p2 W (ht.kept (FrT.of h)) hs.ok (by omega));have HL:=hZq (fun (W:World) (h:wc.grownBy W none)=>len_any T4 p2 W (ht.kept (FrT.of h)) hs.ok (by omega));rw [a1] at HH;rw [a3] at HL;rw [a4] at GC;have HG:=hZq hg;have K1:=hZq (lit10 wc 5 (1,2) 105);have GK:=hZq (World.grownBy_alloc wc (.cells #[.int .u8 105] 5 (1,2)) none);clear ht hs hg a1 a3 a4 hT4
   go_wp2_with fail
   refine (GC.out _ GK.out _ _ K1.out).mono ?_;rintro en w5 ⟨⟨ao,nn,cc,rfl,hb5⟩,hg5⟩;have V5:=hZq hb5;have G5:=hZq (gZq GK.out hg5);clear hb5 hg5
   go_wp2_with fail
   refine (value10 500 8 _ (by omega)).mono ?_;rintro en w6 ⟨g6,rfl,hb6,hg6⟩;have V6:=hZq hb6;have G6:=hZq (gZq G5.out hg6);have V56:=hZq (V5.out.b.keptN hg6);clear hb6 hg6;have SC:=hZq (same_yes ao (some ⟨g6,0,none⟩) nn 500 cc 500 (List.replicate 500 8) (List.replicate 500 8) w6 V56.out V6.out rfl)
   go_wp2_with fail
   refine SC.out.mono ?_;rintro en w7 ⟨rfl,hw7⟩;rw [hw7];clear hw7 SC
   go_wp2_with fail
   refine (HH.out _ G6.out).mono ?_;rintro en w8 ⟨rfl,hg8⟩;have G8:=hZq (gZq G6.out hg8);clear hg8
   go_wp2_with fail
   refine (HL.out _ G8.out).mono ?_;rintro en w9 ⟨rfl,hg9⟩;have G9:=hZq (gZq HG.out (gZq G8.out hg9));clear hg9;go_wp2;go_ret;exact ⟨rfl,G9.out⟩
structure AcT where
 key:List Int
 val:List Int
 gone:Bool
 mark:Bool
 no:Int
structure AcE (w:World)(a:Option Addr)(i:Nat)(x:AcT)(b off:Nat)(ka:Option Addr)(kc:Nat)(va:Option Addr)(vc:Nat):Prop where
 a:a=some ⟨b,off,none⟩
 c0:w.cell? ⟨b,off+i*5,none⟩=some (.slice ka x.key.length kc)
 c1:w.cell? ⟨b,off+i*5+1,none⟩=some (.slice va x.val.length vc)
 c2:w.cell? ⟨b,off+i*5+2,none⟩=some (.bool x.gone)
 c3:w.cell? ⟨b,off+i*5+3,none⟩=some (.bool x.mark)
 c4:w.cell? ⟨b,off+i*5+4,none⟩=some (.int .i64 x.no)
 k:Byt w ka x.key.length kc x.key
 v:Byt w va x.val.length vc x.val
 bk:Bt x.key
 bv:Bt x.val
def AcW (w:World)(a:Option Addr)(C:List AcT):Prop:=∀ (i:Nat) (x:AcT),C[i]?=some x->∃ b off ka kc va vc,AcE w a i x b off ka kc va vc
theorem AcW.cef {w W:World}(h:CeF w W){a:Option Addr}{C:List AcT}(k:AcW w a C):AcW W a C:=fun i x hx=>by
 obtain ⟨b,off,ka,kc,va,vc,e⟩:=k i x hx;exact ⟨b,off,ka,kc,va,vc,e.a,h.cell e.c0,h.cell e.c1,h.cell e.c2,h.cell e.c3,h.cell e.c4,byt_cef h e.k,byt_cef h e.v,e.bk,e.bv⟩
theorem tk_nodup:∀ {zs S:List Int},tkL S zs=true->zs.Nodup
 | [],_,_=>List.nodup_nil
 | z::zs,S,h=>by
  rw [tkL,Bool.and_eq_true] at h;refine List.nodup_cons.2 ⟨fun hz=>?_,tk_nodup h.2⟩;exact (tk_q h.2 z hz).2.2 (List.mem_append_right _ List.mem_cons_self)
theorem tk_bad {zs S:List Int}{z:Int}(hz:z∈zs)(h:z<2∨524287<=z∨z∈S):tkL S zs=false:=by
 cases e:tkL S zs with
 | false=>rfl
 | true =>
  obtain ⟨h1,h2,h3⟩:=tk_q e z hz;rcases h with h | h | h
  ·omega
  ·omega
  ·exact absurd h h3
theorem mem_set10 {zs:List Int}{i:Nat}{z:Int}(h:i<zs.length):z∈zs.set i z:=List.mem_of_getElem? (i:=i) (by rw [List.getElem?_set_self h])
theorem tk_twice {zs S:List Int}{z:Int}(h1:1<zs.length)(hz:zs[0]?=some z):tkL S (zs.set (zs.length - 1) z)=false:=by
 cases e:tkL S (zs.set (zs.length - 1) z) with
 | false=>rfl
 | true =>
  have hn:=tk_nodup e;have hl:(zs.set (zs.length - 1) z).length=zs.length:=List.length_set;have a0:(zs.set (zs.length - 1) z)[0]?=some z:=by rw [List.getElem?_set_ne (by omega)];exact hz
  have a1:(zs.set (zs.length - 1) z)[zs.length - 1]?=some z:=List.getElem?_set_self (by omega);have:=(List.getElem?_inj (i:=0) (j:=zs.length - 1) (show 0<(zs.set (zs.length - 1) z).length by omega) hn).1 (a0.trans a1.symm);omega
theorem tk_low {zs S:List Int}(h:0<zs.length):tkL S (zs.set (zs.length - 1) 1)=false:=tk_bad (mem_set10 (by omega)) (.inl (by omega))
theorem tk_high {zs S:List Int}(h:0<zs.length):tkL S (zs.set 0 524287)=false:=tk_bad (mem_set10 h) (.inr (.inl (by omega)))
theorem tk_taken {zs S:List Int}{z:Int}{i:Nat}(h:i<zs.length)(hz:z∈S):tkL S (zs.set i z)=false:=tk_bad (mem_set10 h) (.inr (.inr hz))
theorem mem_numL {T:Type}{f:T->List Int->T}{g:T->Nat}{q:T->List Int}{z:Int}:∀ {L:List T} {l:List Int},(∀ x∈L,∀ l':List Int,g x<=l'.length->(∀ y∈l',y≠0)->(z∈q (f x l')↔z∈q x∨z∈l'.take (g x)))->sumT g L<=l.length->(∀ y∈l,y≠0)->(z∈(numL f g L l).flatMap q↔z∈L.flatMap q∨z∈l.take (sumT g L))
 | [],l,_,_,_=>by simp [numL,sumT]
 | x::L,l,h,hl,hz=>by
  rw [sumT] at hl;have h1:=h x List.mem_cons_self l (by omega) hz;have h2:=mem_numL (L:=L) (l:=l.drop (g x)) (fun y hy=>h y (List.mem_cons_of_mem _ hy)) (by rw [List.length_drop];omega) (fun y hy=>hz y (List.mem_of_mem_drop hy));rw [numL,List.flatMap_cons,List.flatMap_cons,List.mem_append,List.mem_append,h1,h2,sumT,List.take_add,List.mem_append];constructor
  ·rintro ((k | k) | (k | k))
   ·exact .inl (.inl k)
   ·exact .inr (.inl k)
   ·exact .inl (.inr k)
   ·exact .inr (.inr k)
  ·rintro ((k | k) | (k | k))
   ·exact .inl (.inl k)
   ·exact .inr (.inl k)
   ·exact .inl (.inr k)
   ·exact .inr (.inr k)
theorem take_last {l:List Int}{s:Nat}(h:s<l.length):l.take (1+s)=l.take s++[l.getD s 0]:=by
 rw [Nat.add_comm,List.take_add_one,List.getElem?_eq_getElem h,List.getD_eq_getElem?_getD,List.getElem?_eq_getElem h]
 rfl
theorem gatP_num {p:PrT}{l:List Int}{z:Int}(_:frP p<=l.length)(hz:∀ y∈l,y≠0):z∈nzT (numP p l).chain↔z∈nzT p.chain∨z∈l.take (frP p):=by
 show z∈nzT (p.chain++l.take (frP p))↔_
 rw [nz_mem,nz_mem,List.mem_append];constructor
 ·rintro ⟨k | k,h0⟩
  ·exact .inl ⟨k,h0⟩
  ·exact .inr k
 ·rintro (⟨k,h0⟩ | k)
  ·exact ⟨.inl k,h0⟩
  ·exact ⟨.inr k,hz z (List.mem_of_mem_take k)⟩
theorem nz_one {a z:Int}:z∈nzT [a]↔z=a/\z≠0:=by rw [nz_mem,List.mem_singleton]
theorem gat_num {z:Int}:∀ (n:Nat) (x:NdT n) (l:List Int),frT n x<=l.length->(∀ y∈l,y≠0)->(z∈gatT n (numT n x l)↔z∈gatT n x∨z∈l.take (frT n x))
 | 0,x,l,hl,hz=>by
  by_cases h0:LfT.no x=0
  ·rw [frT,if_pos h0] at hl
   have hm:=mem_numL (f:=numP) (g:=frP) (q:=fun p=>nzT p.chain) (z:=z) (L:=LfT.ps x) (l:=l) (fun p _ l' h1 h2=>gatP_num h1 h2) (by omega) hz;rw [numT,if_pos h0,frT,if_pos h0,take_last (by omega)]
   show z∈nzT [l.getD (sumT frP (LfT.ps x)) 0]++(numL numP frP (LfT.ps x) l).flatMap (fun p=>nzT p.chain)↔z∈nzT [LfT.no x]++(LfT.ps x).flatMap (fun p=>nzT p.chain)∨_
   rw [List.mem_append,List.mem_append,List.mem_append,hm,nz_one,nz_one,List.mem_singleton,h0];have hne:=getD_ne (l:=l) (i:=sumT frP (LfT.ps x)) (by omega) hz;constructor
   ·rintro (⟨k,_⟩ | (k | k))
    ·exact .inr (.inr k)
    ·exact .inl (.inr k)
    ·exact .inr (.inl k)
   ·rintro ((⟨k,k0⟩ | k) | (k | k))
    ·exact absurd k k0
    ·exact .inr (.inl k)
    ·exact .inr (.inr k)
    ·exact .inl ⟨k,by rw [k];exact hne⟩
  ·rw [num_old (n:=0) (x:=x) h0,fr_old 0 x h0]
   simp
 | n+1,x,l,hl,hz=>by
  by_cases h0:BnT.no (T:=NdT n) x=0
  ·rw [frT,if_pos h0] at hl
   have hm:=mem_numL (f:=numT n) (g:=frT n) (q:=gatT n) (z:=z) (L:=(BnT.row (T:=NdT n) x).ns) (l:=l) (fun y _ l' h1 h2=>gat_num n y l' h1 h2) (by omega) hz;rw [numT,if_pos h0,frT,if_pos h0,take_last (by omega)]
   show z∈nzT [l.getD (sumT (frT n) (BnT.row (T:=NdT n) x).ns) 0]++(numL (numT n) (frT n) (BnT.row (T:=NdT n) x).ns l).flatMap (gatT n)↔z∈nzT [BnT.no (T:=NdT n) x]++(BnT.row (T:=NdT n) x).ns.flatMap (gatT n)∨_
   rw [List.mem_append,List.mem_append,List.mem_append,hm,nz_one,nz_one,List.mem_singleton,h0];have hne:=getD_ne (l:=l) (i:=sumT (frT n) (BnT.row (T:=NdT n) x).ns) (by omega) hz;constructor
   ·rintro (⟨k,_⟩ | (k | k))
    ·exact .inr (.inr k)
    ·exact .inl (.inr k)
    ·exact .inr (.inl k)
   ·rintro ((⟨k,k0⟩ | k) | (k | k))
    ·exact absurd k k0
    ·exact .inr (.inl k)
    ·exact .inr (.inr k)
    ·exact .inl ⟨k,by rw [k];exact hne⟩
  ·rw [num_old (n:=n+1) (x:=x) h0,fr_old (n+1) x h0]
   simp
theorem gatO_num {t:Option TrT}{zs:List Int}{z:Int}(hl:zs.length=frO t)(hz:∀ y∈zs,y≠0):z∈gatO (numO t zs)↔z∈gatO t∨z∈zs:=by
 match t,hl with
 | none,hl =>
  have:zs=[]:=List.eq_nil_of_length_eq_zero hl;subst this;simp [gatO,numO]
 | some ⟨n,x⟩,hl =>
  have h1:frT n x=zs.length:=hl.symm;have:=gat_num (z:=z) n x zs (by omega) hz;rw [h1,List.take_length] at this;exact this
theorem all_len {t:Option TrT}{zs has all:List Int}(hl:zs.length=frO t)(hk:tkL (gatO t) zs=true)(h1:has.Nodup)(h2:∀ z,z∈has↔z∈gatO t)(h3:all.Nodup)(h4:∀ z,z∈all↔z∈gatO (numO t zs)):all.length=has.length+zs.length:=by
 have hz:∀ y∈zs,y≠0:=fun y hy=>by have:=tk_q hk y hy;omega
 have hn:(has++zs).Nodup:=List.nodup_append.2 ⟨h1,tk_nodup hk,fun a ha b hb e=>(tk_q hk b hb).2.2 ((h2 b).1 (e ▸ ha))⟩
 have a1:=nodup_le h3 (G:=has++zs) (fun z hz'=>by
  rw [List.mem_append,h2];exact (gatO_num hl hz).1 ((h4 z).1 hz'))
 have a2:=nodup_le hn (G:=all) (fun z hz'=>by
  rw [List.mem_append,h2] at hz';exact (h4 z).2 ((gatO_num hl hz).2 hz'))
 rw [List.length_append] at a1 a2;omega
def AllN (Q:(m:Nat)->NdT m->Prop):(n:Nat)->NdT n->Prop
 | 0,x=>LfT.no x≠0->Q 0 x
 | n+1,x=>(BnT.no (T:=NdT n) x≠0->Q (n+1) x)/\∀ k∈(BnT.row (T:=NdT n) x).ns,AllN Q n k
theorem alln_her (Q:(m:Nat)->NdT m->Prop):HerT (AllN Q):=⟨fun _ h=>absurd rfl h,fun _ _ h=>⟨fun h0=>absurd rfl h0,h⟩,fun _ _ h=>h.2⟩
theorem alln_mono {Q R:(m:Nat)->NdT m->Prop}:∀ (n:Nat) (x:NdT n),AllN Q n x->(∀ m y,noT m y≠0->noT m y∈gatT n x->Q m y->R m y)->AllN R n x
 | 0,x,h,f=>fun h0=>f 0 x h0 (List.mem_append_left _ (nz_one.2 ⟨rfl,h0⟩)) (h h0)
 | n+1,x,h,f=>⟨fun h0=>f (n+1) x h0 (List.mem_append_left _ (nz_one.2 ⟨rfl,h0⟩)) (h.1 h0),fun k hk=>alln_mono n k (h.2 k hk) (fun m y h1 h2 h3=>f m y h1 (List.mem_append_right _ (List.mem_flatMap.2 ⟨k,hk,h2⟩)) h3)⟩
def WnQ (W:Int->TrT)(m:Nat)(y:NdT m):Prop:=W (noT m y)=⟨m,y⟩
def FnO (t:Option TrT):Prop:=∃ W,HerO (AllN (WnQ W)) t
def ButW (W W':Int->TrT)(l:List Int):Prop:=∀ z,z ∉ l->W' z=W z
theorem but_all {W W':Int->TrT}{l:List Int}{n:Nat}{x:NdT n}(h:AllN (WnQ W) n x)(hb:ButW W W' l)(hd:∀ z∈gatT n x,z ∉ l):AllN (WnQ W') n x :=
 alln_mono n x h (fun _ _ _ h2 h3=>(hb _ (hd _ h2)).trans h3)
theorem gat_old {n:Nat}{x:NdT n}{l:List Int}{z:Int}(h:z∈gatT n (numT n x l))(hl:frT n x<=l.length)(hz:∀ y∈l,y≠0):z∈gatT n x∨z∈l.take (frT n x):=(gat_num n x l hl hz).1 h
theorem fn_num:∀ (n:Nat) (x:NdT n) (l:List Int) (W:Int->TrT),AllN (WnQ W) n x->frT n x<=l.length->(∀ y∈l,y≠0)->l.Nodup->(∀ z∈gatT n x,z ∉ l) ->
  ∃ W',AllN (WnQ W') n (numT n x l)/\ButW W W' (l.take (frT n x))
 | 0,x,l,W,h,hl,hz,_,hd=>by
  by_cases h0:LfT.no x=0
  ·rw [frT,if_pos h0] at hl ⊢
   rw [numT,if_pos h0,take_last (by omega)];refine ⟨fun z=>if z=l.getD (sumT frP (LfT.ps x)) 0 then ⟨0,(⟨l.getD (sumT frP (LfT.ps x)) 0,numL numP frP (LfT.ps x) l⟩:LfT)⟩ else W z,fun _=>if_pos rfl,fun z hz=>if_neg (fun e=>hz ?_)⟩;rw [e];exact List.mem_append_right _ (List.mem_singleton.2 rfl)
  ·rw [num_old (n:=0) (x:=x) h0]
   exact ⟨W,h,fun _ _=>rfl⟩
 | n+1,x,l,W,h,hl,hz,hn,hd=>by
  by_cases h0:BnT.no (T:=NdT n) x=0
  ·rw [frT,if_pos h0] at hl
   have hrow:∀ (L:List (NdT n)) (l:List Int) (W:Int->TrT),(∀ y∈L,AllN (WnQ W) n y)->sumT (frT n) L<=l.length->(∀ y∈l,y≠0)->l.Nodup->(∀ y∈L,∀ z∈gatT n y,z ∉ l) ->
     ∃ W',(∀ y∈numL (numT n) (frT n) L l,AllN (WnQ W') n y)/\ButW W W' (l.take (sumT (frT n) L)):=by
    intro L
    induction L with
    | nil=>exact fun l W _ _ _ _ _=>⟨W,fun y hy=>by simp [numL] at hy,fun _ _=>rfl⟩
    | cons y L ih =>
     intro l W hA hl hz hn hd;rw [sumT] at hl;obtain ⟨W1,a1,b1⟩:=fn_num n y l W (hA y List.mem_cons_self) (by omega) hz hn (hd y List.mem_cons_self);obtain ⟨W2,a2,b2⟩:=ih (l.drop (frT n y)) W1 (fun k hk=>but_all (hA k (List.mem_cons_of_mem _ hk)) b1 (fun z hz' hm=>hd k (List.mem_cons_of_mem _ hk) z hz' (List.mem_of_mem_take hm))) (by rw [List.length_drop];omega) (fun k hk=>hz k (List.mem_of_mem_drop hk)) (hn.sublist (List.drop_sublist _ _)) (fun k hk z hz' hm=>hd k (List.mem_cons_of_mem _ hk) z hz' (List.mem_of_mem_drop hm));refine ⟨W2,fun k hk=>?_,fun z hz'=>?_⟩
     ·rw [numL,List.mem_cons] at hk
      rcases hk with rfl | hk
      ·refine but_all a1 b2 (fun z hz' hm=>?_)
       have hm2:=List.mem_of_mem_take hm;rcases gat_old hz' (by omega) hz with k | k
       ·exact hd y List.mem_cons_self z k (List.mem_of_mem_drop hm2)
       ·rw [<- List.take_append_drop (frT n y) l] at hn
        exact (List.nodup_append.1 hn).2.2 z k z hm2 rfl
      ·exact a2 k hk
     ·rw [sumT,List.take_add,List.mem_append,not_or] at hz'
      exact (b2 z hz'.2).trans (b1 z hz'.1)
   obtain ⟨W1,a1,b1⟩:=hrow (BnT.row (T:=NdT n) x).ns l W h.2 (by omega) hz hn (fun y hy z hz'=>hd z (List.mem_append_right _ (List.mem_flatMap.2 ⟨y,hy,hz'⟩)));rw [numT,if_pos h0,frT,if_pos h0,take_last (by omega)];have hin:sumT (frT n) (BnT.row (T:=NdT n) x).ns<l.length:=by omega
   obtain ⟨v,hv⟩:∃ v,l.getD (sumT (frT n) (BnT.row (T:=NdT n) x).ns) 0=v:=⟨_,rfl⟩
   have hvl:v ∉ l.take (sumT (frT n) (BnT.row (T:=NdT n) x).ns):=fun hm=>by
    rw [<- List.take_append_drop (sumT (frT n) (BnT.row (T:=NdT n) x).ns) l] at hn;refine (List.nodup_append.1 hn).2.2 v hm v ?_ rfl;rw [<- hv,List.getD_eq_getElem?_getD,List.getElem?_eq_getElem hin];exact List.mem_of_getElem? (i:=0) (by rw [List.getElem?_drop,Nat.add_zero,List.getElem?_eq_getElem hin];rfl)
   have hvm:v∈l:=by
    rw [<- hv,List.getD_eq_getElem?_getD,List.getElem?_eq_getElem hin];exact List.getElem_mem hin
   rw [hv];refine ⟨fun z=>if z=v then ⟨n+1,(⟨v,⟨numL (numT n) (frT n) (BnT.row (T:=NdT n) x).ns l,(BnT.row (T:=NdT n) x).ss⟩⟩:BnT (NdT n))⟩ else W1 z,⟨fun _=>if_pos rfl,fun k hk=>?_⟩,fun z hz'=>?_⟩
   ·refine but_all (l:=[v]) (a1 k hk) (fun z hz'=>if_neg (fun e=>hz' (List.mem_singleton.2 e))) (fun z hz' hm=>?_)
    rw [List.mem_singleton] at hm;subst hm;have hg:z∈(numL (numT n) (frT n) (BnT.row (T:=NdT n) x).ns l).flatMap (gatT n):=List.mem_flatMap.2 ⟨k,hk,hz'⟩;rcases (mem_numL (f:=numT n) (g:=frT n) (q:=gatT n) (z:=z) (L:=(BnT.row (T:=NdT n) x).ns) (l:=l) (fun y _ l' h1 h2=>gat_num n y l' h1 h2) (by omega) hz).1 hg with k | k
    ·exact hd z (List.mem_append_right _ k) hvm
    ·exact hvl k
   ·rw [List.mem_append,not_or,List.mem_singleton] at hz'
    show (if z=v then _ else W1 z)=W z
    rw [if_neg hz'.2];exact b1 z hz'.1
  ·rw [num_old (n:=n+1) (x:=x) h0]
   exact ⟨W,h,fun _ _=>rfl⟩
theorem tk_apart {S zs:List Int}(h:tkL S zs=true):∀ z∈S,z ∉ zs:=fun z hz hm=>(tk_q h z hm).2.2 hz
theorem numO_fn {t:Option TrT}{zs:List Int}(hl:zs.length=frO t)(hk:tkL (gatO t) zs=true)(h:FnO t):FnO (numO t zs):=by
 obtain ⟨W,h⟩:=h
 match t,hl,h,hk with
 | none,_,_,_=>exact ⟨W,trivial⟩
 | some ⟨n,x⟩,hl,h,hk =>
  obtain ⟨W',h1,_⟩:=fn_num n x zs W h (by rw [hl];exact Nat.le_refl _) (fun y hy=>by have:=tk_q hk y hy;omega) (tk_nodup hk) (tk_apart hk);exact ⟨W',h1⟩
theorem st_fn {t:Option TrT}{key val:List Int}{gone:Bool}(h:FnO t):FnO (stO t key val gone):=by
 unfold stO
 split
 ·exact h
 ·cases hq:treeT t key (nowB key val gone) with
  | none=>exact h
  | some u =>
   obtain ⟨W,h⟩:=h;exact ⟨W,tree_her (alln_her _) h hq⟩
theorem act_fn {t u:Option TrT}{key val:List Int}{gone mark:Bool}(h:FnO t)(ha:ActR t key val gone mark u):FnO u:=by
 unfold ActR at ha
 split at ha
 ·obtain ⟨zs,h1,h2,rfl⟩:=ha
  exact numO_fn h1 h2 (st_fn h)
 ·subst ha
  exact st_fn h
def HnO (t:Option TrT):Prop:=HerO HnT t
theorem numO_hn {t:Option TrT}{zs:List Int}(hl:zs.length=frO t)(hz:∀ z∈zs,z≠0)(h:HnO t):HnO (numO t zs):=by
 match t,hl,h with
 | none,_,_=>exact trivial
 | some ⟨n,x⟩,hl,h=>exact num_hn n x zs (by rw [hl];exact Nat.le_refl _) hz h
theorem st_hn {t:Option TrT}{key val:List Int}{gone:Bool}(h:HnO t):HnO (stO t key val gone):=by
 unfold stO
 split
 ·exact h
 ·cases hq:treeT t key (nowB key val gone) with
  | none=>exact h
  | some u=>exact tree_her hn_her h hq
theorem act_hn {t u:Option TrT}{key val:List Int}{gone mark:Bool}(h:HnO t)(ha:ActR t key val gone mark u):HnO u:=by
 unfold ActR at ha
 split at ha
 ·obtain ⟨zs,h1,h2,rfl⟩:=ha
  exact numO_hn h1 (fun z hz=>by have:=tk_q h2 z hz;omega) (st_hn h)
 ·subst ha
  exact st_hn h
structure GrI (w wr:World)(q k:Nat)(t:Option TrT):Prop where
 tr:TreeT wr q t
 sd:SdT t
 hn:HnO t
 fn:FnO t
 le:(flatO t).length<=k
 gr:w.grownBy wr none
theorem grown10_any (a:Option Addr)(n c:Nat)(C:List AcT)(w:World)(hC:AcW w a C)(hn:C.length=n) :
  Calls Tryz.prog 16 #[.slice a n c] w fun en w'=>∃ q t,en=.returned (.pointer (some ⟨q,0,none⟩))/\GrI w w' q 2000 t:=by
 have HC:=hZq hC;have HCN:=hZq hn;clear hC hn;go_enter Tryz.func16,Tryz.ntmps16
 go_wp2_with fail
 refine (empty10 w).mono ?_;rintro en w2 ⟨p0,rfl,ht2,hg2⟩;have T2:=hZq ht2;have G2:=hZq hg2;clear ht2 hg2
 go_wp2_with fail
 go_loopw [3,4] (fun s3 s4 wr=>∃ (k q:Nat) (t:Option TrT),k<=n/\k<=2000/\s3=.pointer (some ⟨q,0,none⟩)/\s4=.int .i64 (k:Nat)/\GrI w wr q k t) (fun _ s4 _=>n - (intOf s4).toNat)
 case atStart=>exact ⟨0,p0,none,Nat.zero_le _,Nat.zero_le _,rfl,rfl,T2.out,SdT.start,trivial,⟨fun _=>⟨0,(⟨0,[]⟩:LfT)⟩,trivial⟩,Nat.le_refl _,G2.out⟩
 case round =>
  obtain ⟨k,q,t,hkn,hk2,rfl,rfl,hI⟩:=hrel;have HI:=hZq hI;clear hI
  by_cases hlt:k<n/\k<2000
  ·obtain ⟨l1,l2⟩:=hlt
   have i0:(0:Int)<=(k:Int):=by omega
   have i1:(k:Int)<(n:Int):=by omega
   have i2:(k:Int)<2000:=by omega
   obtain ⟨x,hx⟩:∃ x,C[k]?=some x:=⟨_,List.getElem?_eq_getElem (by have:=HCN.out;omega)⟩;obtain ⟨b,off,ka,kc,va,vc,e⟩:=HC.out k x hx;have ea:=e.a;subst ea;have c0:=keep1 e.c0 HI.out.gr;have c1:=keep1 e.c1 HI.out.gr;have c2:=keep1 e.c2 HI.out.gr;have c3:=keep1 e.c3 HI.out.gr;have c4:=keep1 e.c4 HI.out.gr;have KB:=hZq (e.k.keptN HI.out.gr);have VB:=hZq (e.v.keptN HI.out.gr);have BK:=hZq e.bk;have BV:=hZq e.bv;obtain ⟨ky,vl,gone,mark,no⟩:=x;simp only at c0 c1 c2 c3 c4 KB VB BK BV;obtain ⟨kn,hkl⟩:∃ kn,ky.length=kn:=⟨_,rfl⟩;obtain ⟨vn,hvl⟩:∃ vn,vl.length=vn:=⟨_,rfl⟩;rw [hkl] at c0 KB;rw [hvl] at c1 VB;clear e hx hkl hvl;have SD:=hZq (st_sd (key:=ky) (val:=vl) (gone:=gone) HI.out.sd BK.out BV.out)
   have hlen:(flatO (stO t ky vl gone)).length<=k+1:=by
    have h1:=congrArg List.length SD.out.2;have h2:=dos_len (L:=(flatO t).map strP) (key:=ky) (val:=vl) (gone:=gone);rw [List.length_map] at h1 h2;have h3:=HI.out.le
    split at h2 <;> omega
   have AC:=hZq (act_any t q ka kn kc ky va vn vc vl gone mark no wr HI.out.tr HI.out.sd KB.out VB.out BK.out BV.out (by omega));clear hlen
   go_wp2_with fail
   refine AC.out.mono ?_;rintro en w5 ⟨q5,u,rfl,ht5,ha5,hg5⟩;obtain ⟨su,fu⟩:=act_sd HI.out.sd BK.out BV.out ha5
   have hML:(flatO u).length<=k+1:=by
    have h1:=congrArg List.length fu;have h2:=dos_len (L:=(flatO t).map strP) (key:=ky) (val:=vl) (gone:=gone);rw [List.length_map] at h1 h2;have h3:=HI.out.le
    split at h2 <;> omega
   have TT:Hid (GrI w w5 q5 (k+1) u):=⟨ht5,su,act_hn HI.out.hn ha5,act_fn HI.out.fn ha5,hML,gZq HI.out.gr hg5⟩;clear ht5 ha5 hg5 su fu hML AC
   go_wp2_with fail
   go_roundw
   case rel=>exact ⟨k+1,q5,u,by omega,by omega,rfl,by go_num,TT.out⟩
   case measure=>simp [intOf];omega
  ·have TT:Hid (GrI w wr q 2000 t):=⟨HI.out.tr,HI.out.sd,HI.out.hn,HI.out.fn,by have:=HI.out.le;omega,HI.out.gr⟩
   by_cases hkn2:k<n
   ·have i1:(k:Int)<(n:Int):=by omega
    have i2:¬ (k:Int)<2000:=by omega
    go_wp2;go_ret;exact ⟨q,rfl,t,TT.out⟩
   ·have i1:¬ (k:Int)<(n:Int):=by omega
    go_wp2;go_ret;exact ⟨q,rfl,t,TT.out⟩
theorem told_ok:∀ (n k:Nat) (x:NdT n),OkT n x->∀ v∈tellT n k x,v.ks.length<=sizeT n x/\v.ss.length<=sizeT n x/\(∀ s∈v.ss,s.length<=255)/\v.lv<=n
 | 0,k,x,_,v,hv=>by
  have e:v=⟨LfT.no x,0,LfT.ps x,[],[]⟩:=by simpa [tellT] using hv
  subst e;exact ⟨Nat.zero_le _,Nat.zero_le _,(fun s hs=>by cases hs),Nat.le_refl _⟩
 | n+1,k,x,hx,v,hv=>by
  obtain ⟨x1,x2,x3,x4,x5⟩:=hx;rw [tellT,List.mem_append,List.mem_singleton] at hv
  have hsum:∀ L:List (NdT n),L.length<=sumT (sizeT n) L:=by
   intro L
   induction L with
   | nil=>exact Nat.zero_le _
   | cons y L ih =>
    rw [sumT,List.length_cons]
    have:1<=sizeT n y:=by
     cases n with
     | zero=>exact Nat.le_refl 1
     | succ n=>exact Nat.le_add_left 1 _
    omega
  rcases hv with hv | rfl
  ·obtain ⟨y,k',hy,hyv⟩:=tellL_mem hv
   obtain ⟨h1,h2,h3,h4⟩:=told_ok n k' y (x2 y hy) v hyv;have:=sumT_mem (sizeT n) hy;rw [sizeT];exact ⟨by omega,by omega,h3,by omega⟩
  ·have h1:=hsum (BnT.row (T:=NdT n) x).ns
   have h2:=x3.len;refine ⟨?_,?_,fun s hs=>(x5 s hs).k2,Nat.le_refl _⟩
   ·show (placesL (tellT n) k (BnT.row (T:=NdT n) x).ns).length<=_
    rw [placesL_len,sizeT];omega
   ·show (BnT.row (T:=NdT n) x).ss.length<=_
    rw [sizeT];omega
structure TzP (t:Option TrT):Prop where
 len:(tellO t).length<=14000
 high:highO t<=7
 ps:∀ v∈tellO t,v.ps.length<=2000
 pv:∀ v∈tellO t,∀ p∈v.ps,p.key.length<=255/\p.val.length<=262144/\p.chain.length<=65/\Bt p.key
 ks:∀ v∈tellO t,v.ks.length<=14000/\v.ss.length<=14000/\(∀ s∈v.ss,s.length<=255)/\v.lv<=6
theorem tz_of {t:Option TrT}(sd:SdT t)(hf:(flatO t).length<=2000):TzP t:=by
 have hlow:=low_tree sd.ok sd.nj sd.rk hf;have hsz:=size_tree sd.ok sd.nj sd.rk hf
 have hps:∀ v∈tellO t,∀ p∈v.ps,p∈flatO t:=fun v hv p hp=>by
  rw [<- tellO_ps t];exact List.mem_flatMap.2 ⟨v,hv,hp⟩
 refine ⟨?_,?_,fun v hv=>?_,fun v hv p hp=>?_,fun v hv=>?_⟩
 ·match t,hsz with
  | none,_=>exact Nat.zero_le _
  | some ⟨n,x⟩,h =>
   show (tellT n 0 x).length<=_
   rw [tell_len];exact h
 ·match t,hlow with
  | none,_=>exact Nat.zero_le _
  | some ⟨n,x⟩,h =>
   have h':n<=6:=h
   show n+1<=7
   omega
 ·rw [<- tellO_ps t] at hf
  rw [flatMap_len] at hf;have h1:v.ps.length<=sumT (fun x:NoT=>x.ps.length) (tellO t):=sumT_mem (fun x:NoT=>x.ps.length) hv;omega
 ·have hm:=hps v hv p hp
  have hc:=sd.ch p hm
  match t,sd.ok,hm with
  | some t,ho,hm =>
   have hv:=flat_vp t.lv t.root ho p hm;exact ⟨hv.k2,hv.v1,hc,hv.kb⟩
  | none,_,hm=>simp [flatO] at hm
 ·match t,sd.ok,hsz,hlow,hv with
  | some ⟨n,x⟩,ho,hsz,hlow,hv =>
   obtain ⟨h1,h2,h3,h4⟩:=told_ok n 0 x ho v hv;have hs:sizeT n x<=14000:=hsz;have hl:n<=6:=hlow;exact ⟨by omega,by omega,h3,by omega⟩
  | none,_,_,_,hv=>simp [tellO] at hv
theorem sumT_step {T:Type}(g:T->Nat){L:List T}{i:Nat}{x:T}(h:L[i]?=some x):sumT g (L.take (i+1))=sumT g (L.take i)+g x:=by
 rw [List.take_add_one,h,sumT_app]
 show _+(g x+0)=_
 omega
theorem sumT_part {T:Type}(g:T->Nat)(L:List T)(i:Nat):sumT g (L.take i)<=sumT g L:=by
 conv=>rhs;rw [<- List.take_append_drop i L]
 rw [sumT_app];omega
theorem tellO_num {t:Option TrT}{zs:List Int}(h:HnO t):tellO (numO t zs)=numN (tellO t) zs:=by
 match t,h with
 | none,_=>rfl
 | some ⟨n,x⟩,h=>exact tell_num n x 0 zs h
theorem tellO_fr {t:Option TrT}(h:HnO t):sumT frN (tellO t)=frO t:=by
 match t,h with
 | none,_=>rfl
 | some ⟨n,x⟩,h=>exact tell_fr n x 0 h
theorem numP_chain (p:PrT)(l:List Int):(numP p l).chain=if 0<frP p then l.take (frP p) else p.chain:=by
 by_cases h:0<frP p
 ·rw [if_pos h]
  have hc:=(frP_le p).2 h
  show p.chain++l.take (frP p)=_
  rw [hc,List.nil_append]
 ·rw [if_neg h,numP_id (by omega)]
theorem told_num {t:Option TrT}{zs:List Int}(h:HnO t){i:Nat}{x:NoT}(hx:(tellO t)[i]?=some x):(tellO (numO t zs))[i]?=some (numX x (zs.drop (sumT frN ((tellO t).take i)))):=by
 rw [tellO_num h];unfold numN;exact numL_get numX frN _ _ _ _ hx
theorem told_le {t:Option TrT}{zs:List Int}(h:HnO t)(hl:zs.length=frO t){i:Nat}{x:NoT}(hx:(tellO t)[i]?=some x):sumT frN ((tellO t).take i)+frN x<=zs.length:=by
 have h1:=sumT_part frN (tellO t) (i+1);rw [sumT_step frN hx,tellO_fr h] at h1;omega
end Go.Proofs.YtepcgckapoljpaaGreat
