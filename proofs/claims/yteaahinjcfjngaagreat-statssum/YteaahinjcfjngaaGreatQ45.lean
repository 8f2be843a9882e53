import Derived.Test.YteaahinjcfjngaaGreatQ43
import Derived.Lib.AppendZeros
import Derived.Laws.OwnMore
set_option maxRecDepth 100000
set_option maxHeartbeats 2000000
namespace Go.Proofs.YteaahinjcfjngaaGreat
open Go.RowKit
theorem iclone_u (ao:Option Addr)(n c:Nat)(zs:List Int)(w:World)(hb:NmU w ao n c zs)(hn:n<=17592186044416) :
  Calls Tryz.prog 132 #[.slice ao n c] w fun en w'=>∃ a' c',en=.returned (.slice a' n c')/\NmT w' a' n c' zs/\w.grownBy w' none/\∀ ad,a'=some ad->w.heap.size<=ad.block:=by
 obtain ⟨i0,hi,hz0,hz1,hz2⟩:=info_parts info_i10;have q22:∀ (w:World) (a:Option Addr) (n c n' c':Nat),(binOp .eql 30 (.slice a n c) (.slice none n' c')).run Tryz.prog w=.ok (.bool a.isNone) w:=fun w a n c n' c'=>Lib.run_eql_slice_nil w _ _ a n c n' c' Tryz.underlying30
 have hln:zs.length=n:=by have:=hb.len;simpa using this
 match ao,hb with
 | none,hb =>
  have hc0:c=0:=hb.nil rfl;have hn0:n=0:=by have:=hb.cap;omega
  subst hn0;have hz:zs=[]:=List.eq_nil_of_length_eq_zero hln;subst hz;clear hb;go_enter Tryz.func132,Tryz.ntmps132;go_wp2;go_ret;exact ⟨none,0,rfl,EsT.nul _ _ _,World.grownBy.refl _ _,(fun ad h=>by cases h)⟩
 | some ad,hb =>
  have HB:=hZq (EsU.kept hb (CkF.of (World.grownBy_alloc w (.cells #[] 3) none))).cells;clear hb;rw [flat1] at HB;go_enter Tryz.func132,Tryz.ntmps132
  go_wp2_with (at_builtin;refine wpList_append_own _ rfl _ _ 30 rfl w.heap.size 3 i0 (.int .i64 0) 1 8 Tryz.underlying30 hi hz0 hz1 hz2 rfl (by decide) _ _ _ rfl (World.ownsRow_made w #[] 0 (Nat.le_refl _) (Nat.zero_le _) rfl) ad n c (zs.map (Value.int .i64)) rfl ?qc1 ?qc2 ?qc3 ?qc4 ?qc5 ?qc6 ?_)
  case qc1=>rw [List.length_map,hln,Nat.mul_one]
  case qc2=>exact HB.out.1
  case qc3=>exact ints_oneCell _ _
  case qc4=>unfold maxLen;omega
  case qc5=>omega
  case qc6=>simp
  intro v' w1 hown hgrow hnil;have hown':w1.ownsRow w.heap.size 3 1 v' n (zs.map (Value.int .i64)):=by simpa using hown
  have HG:Hid (w.grownBy w1 none):=grown_new (World.grownBy_alloc w (.cells #[] 3) none) (by simpa [Value.ownBlock] using hgrow) (Nat.le_refl _);clear hown hgrow hnil;obtain ⟨a',c',hv,hnm⟩:=NmT.of_owns hown';subst hv;have HO:=hZq hnm
  have HL:Hid (∀ ad,a'=some ad->w.heap.size<=ad.block):=fun ad e=>by
   subst e;exact (own_lt10 hown' rfl).1
  clear hown' hnm;go_wp2;go_ret;exact ⟨a',c',rfl,HO.out,HG.out,HL.out⟩
theorem iclone_z (ao:Option Addr)(n c:Nat)(zs:List Int)(w:World)(hb:NmU w ao n c zs)(hn:n<=17592186044416) :
  Calls Tryz.prog 132 #[.slice ao n c] w fun en w'=>∃ a' c',en=.returned (.slice a' n c')/\NmT w' a' n c' zs/\w.grownBy w' none/\(n=0->c'=0):=by
 by_cases h0:n=0
 ·obtain ⟨i0,hi,hz0,hz1,hz2⟩:=info_parts info_i10
  have q22:∀ (w:World) (a:Option Addr) (n c n' c':Nat),(binOp .eql 30 (.slice a n c) (.slice none n' c')).run Tryz.prog w=.ok (.bool a.isNone) w:=fun w a n c n' c'=>Lib.run_eql_slice_nil w _ _ a n c n' c' Tryz.underlying30
  have hln:zs.length=n:=by have:=hb.len;simpa using this
  subst h0;have hz:zs=[]:=List.eq_nil_of_length_eq_zero hln;subst hz
  match ao,hb with
  | none,hb =>
   have hc0:c=0:=hb.nil rfl;clear hb;go_enter Tryz.func132,Tryz.ntmps132;go_wp2;go_ret;exact ⟨none,0,rfl,EsT.nul _ _ _,World.grownBy.refl _ _,fun _=>rfl⟩
  | some ad,hb =>
   clear hb hln;obtain ⟨w1,hr,ho,hg⟩:=run_append_fits (P:=Tryz.prog) (w.alloc (.cells #[] 3)) w.heap.size 30 30 3 i0 1 Tryz.underlying30 hi hz1 w.heap.size 0 0 [] (World.ownsRow_made w #[] 0 (Nat.le_refl _) (Nat.zero_le _) rfl) ad 0 c [] rfl (fun j u h=>by simp at h) (fun u h=>by cases h) (Nat.le_refl _);have HR:=hZq hr;have HG:Hid (w.grownBy w1 none):=grown_new (World.grownBy_alloc w (.cells #[] 3) none) hg (Nat.le_refl _);clear hr ho hg;go_enter Tryz.func132,Tryz.ntmps132
   go_wp2_with (at_builtin;refine Lib.wpList_append_run _ rfl _ _ 30 30 rfl _ _ rfl rfl _ _ HR.out ?_)
   go_ret;exact ⟨_,0,rfl,EsT.zero w1 3 _ 0 1 (by omega) (fun e=>by cases e) (fun x hx=>by cases hx;exact ⟨_,_,rfl⟩),HG.out,fun _=>rfl⟩
 ·refine (iclone_u ao n c zs w hb hn).mono ?_
  rintro en w' ⟨a',c',rfl,h1,h2,_⟩;exact ⟨a',c',rfl,h1,h2,fun e=>absurd e h0⟩
end Go.Proofs.YteaahinjcfjngaaGreat
