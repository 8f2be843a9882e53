import Derived.Test.YtepcgckapoljpaaGreatQ15
set_option maxRecDepth 100000
set_option maxHeartbeats 4000000
namespace Go.Proofs.YtepcgckapoljpaaGreat
open Go.RowKit
structure Cf (w:World)(S T U F G:Nat):Prop where
 f:w.cell? ⟨F,0,none⟩=some (.func (.func 183) #[] #[.pointer (some ⟨S,0,none⟩),.pointer (some ⟨T,0,none⟩),.pointer (some ⟨U,0,none⟩)])
 g:w.cell? ⟨G,0,none⟩=some (.func (.func 184) #[] #[.pointer (some ⟨S,0,none⟩),.pointer (some ⟨T,0,none⟩)])
theorem Cf.keptN {w w':World}{S T U F G:Nat}(h:Cf w S T U F G)(hg:w.grownBy w' none):Cf w' S T U F G :=
 ⟨hg.cell h.f (by simp),hg.cell h.g (by simp)⟩
theorem greater_by (S T U F G i a b:Nat)(w:World)(hd:Cf w S T U F G)
  (hF:∀ W,w.grownBy W none->Calls Tryz.prog 183 #[.int .i64 i,.pointer (some ⟨S,0,none⟩),.pointer (some ⟨T,0,none⟩),.pointer (some ⟨U,0,none⟩)] W fun en w'=>en=.returned (.int .i64 (a:Nat))/\W.grownBy w' none)
  (hG:∀ W,w.grownBy W none->Calls Tryz.prog 184 #[.int .i64 i,.pointer (some ⟨S,0,none⟩),.pointer (some ⟨T,0,none⟩)] W fun en w'=>en=.returned (.int .i64 (b:Nat))/\W.grownBy w' none) :
  Calls Tryz.prog 185 #[.int .i64 i,.pointer (some ⟨F,0,none⟩),.pointer (some ⟨G,0,none⟩)] w fun en w'=>en=.returned (.int .i64 ((max a b:Nat):Int))/\w.grownBy w' none:=by
 have c1:=hd.f;have c2:=hd.g;have HD:=hZq hd;have HF:=hZq hF;have HG:=hZq hG;obtain ⟨M,hM⟩:∃ M:Nat,max a b=M:=⟨_,rfl⟩;have hmax:∀ (ts:Array TypeId) (t:TypeId) (W:World),(Builtin.max_ ts t #[.int .i64 a,.int .i64 b]).run Tryz.prog W=.ok (.int .i64 M) W:=fun ts t W=>by rw [run_max_int2,max_int,hM]
 rw [hM];have G0:=hZq ((Qt.refl w).drew.grown none);clear hd hF hG hM;go_enter Tryz.func185,Tryz.ntmps185;go_wp2
 go_region_with (first
  | (go_at_call 183;refine (HF.out w.drew G0.out).mono ?_;rintro en wa ⟨rfl,hga⟩;have da:=(HD.out.keptN (gZq G0.out hga)).g)
  | (go_at_call 183;refine (HF.out wb (gZq G0.out hgb)).mono ?_;rintro en wc ⟨rfl,hgc⟩)
  | (go_at_call 184;refine (HG.out w.drew G0.out).mono ?_;rintro en wb ⟨rfl,hgb⟩;have db:=(HD.out.keptN (gZq G0.out hgb)).f)
  | (go_at_call 184;refine (HG.out wa (gZq G0.out hga)).mono ?_;rintro en wc ⟨rfl,hgc⟩))
 all_goals (go_wp2;go_ret;first | exact ⟨rfl,gZq (gZq G0.out hga) hgc⟩ | exact ⟨rfl,gZq (gZq G0.out hgb) hgc⟩)
theorem pred_by (S T U F G k a b:Nat)(w:World)(hk:k<=100000)(hd:Cf w S T U F G)
  (hF:∀ W,w.grownBy W none->Calls Tryz.prog 183 #[.int .i64 ((k+1:Nat):Int),.pointer (some ⟨S,0,none⟩),.pointer (some ⟨T,0,none⟩),.pointer (some ⟨U,0,none⟩)] W fun en w'=>en=.returned (.int .i64 (a:Nat))/\W.grownBy w' none)
  (hG:∀ W,w.grownBy W none->Calls Tryz.prog 184 #[.int .i64 ((k+1:Nat):Int),.pointer (some ⟨S,0,none⟩),.pointer (some ⟨T,0,none⟩)] W fun en w'=>en=.returned (.int .i64 (b:Nat))/\W.grownBy w' none) :
  Calls Tryz.prog 186 #[.int .i64 k,.pointer (some ⟨F,0,none⟩),.pointer (some ⟨G,0,none⟩)] w fun en w'=>en=.returned (.bool (decide (b<=a)))/\w.grownBy w' none:=by
 have c1:=hd.f;have c2:=hd.g;have HD:=hZq hd;have HF:=hZq hF;have HG:=hZq hG;obtain ⟨j,hj⟩:∃ j:Nat,k+1=j:=⟨_,rfl⟩;rw [hj] at HF HG;have e1:(k:Int)+1=(j:Int):=by omega
 have w1:IntKind.i64.wrap (j:Int)=(j:Int):=by rw [IntKind.wrap_i64];omega
 have G0:=hZq ((Qt.refl w).drew.grown none);have hdec:decide (b<=a)=decide ((b:Int)<=(a:Int)):=by simp
 have HDE:=hZq hdec;clear hd hF hG hj hdec;go_enter Tryz.func186,Tryz.ntmps186;go_wp2
 go_region_with (first
  | (go_at_call 183;refine (HF.out w.drew G0.out).mono ?_;rintro en wa ⟨rfl,hga⟩;have da:=(HD.out.keptN (gZq G0.out hga)).g)
  | (go_at_call 183;refine (HF.out wb (gZq G0.out hgb)).mono ?_;rintro en wc ⟨rfl,hgc⟩)
  | (go_at_call 184;refine (HG.out w.drew G0.out).mono ?_;rintro en wb ⟨rfl,hgb⟩;have db:=(HD.out.keptN (gZq G0.out hgb)).f)
  | (go_at_call 184;refine (HG.out wa (gZq G0.out hga)).mono ?_;rintro en wc ⟨rfl,hgc⟩))
 all_goals (go_wp2;go_ret;first | exact ⟨by rw [HDE.out];rfl,gZq (gZq G0.out hga) hgc⟩ | exact ⟨by rw [HDE.out];rfl,gZq (gZq G0.out hgb) hgc⟩)
end Go.Proofs.YtepcgckapoljpaaGreat
