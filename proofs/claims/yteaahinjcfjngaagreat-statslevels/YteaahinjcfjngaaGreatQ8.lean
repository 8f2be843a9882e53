import Derived.Test.YteaahinjcfjngaaGreatQ6
import Derived.Laws.BytesArg
set_option maxHeartbeats 400000
namespace Go.Proofs.YteaahinjcfjngaaGreat
open Go.RowKit
theorem conv_str {w:World}{ao:Option Addr}{n cap:Nat}{zs:List Int}(hb:Byt w ao n cap zs) :
  (convert 62 9 (.slice ao n cap)).run Tryz.prog w=.ok (.string (strOfNums zs)) w:=by
 cases ao with
 | none =>
  obtain ⟨rfl,rfl⟩:=hb.nil rfl;have:zs=[]:=List.length_eq_zero_iff.1 hb.len;subst this;exact run_convert_bytes_nil w 62 5 Tryz.underlying62 Tryz.underlying5 0 0 9 Tryz.underlying9
 | some ad =>
  rw [run_convert_bytes_string w 62 9 5 _ n cap Tryz.underlying62 Tryz.underlying5 Tryz.underlying9]
  have hl:(loadCells ad n).run Tryz.prog w=.ok (zs.map (Value.int .u8)).toArray w:=by
   have:=run_loadCells_list (P:=Tryz.prog) w ad (zs.map (Value.int .u8)) (hb.cells ad rfl)
   rwa [List.length_map,hb.len] at this
  rw [run_bytesToString w ad n cap zs hl,foldl_push_bytes];simp [strOfNums]
theorem str_inj {a b:List Int}(ha:Bt a)(hb:Bt b)(h:strOfNums a=strOfNums b):a=b:=by
 have h1:a.map (fun n=>UInt8.ofNat n.toNat)=b.map (fun n=>UInt8.ofNat n.toNat):=by
  have:=congrArg (fun s:ByteArray=>s.data.toList) h;simpa [strOfNums_data] using this
 have hl:a.length=b.length:=by have:=congrArg List.length h1;simpa using this
 apply List.ext_getElem hl;intro i h2 h3;have:=congrArg (fun l:List UInt8=>l[i]?) h1;simp only [List.getElem?_map,List.getElem?_eq_getElem h2,List.getElem?_eq_getElem h3,Option.map_some,Option.some.injEq] at this;have e:=congrArg UInt8.toNat this;have ga:=ha a[i] (List.getElem_mem h2);have gb:=hb b[i] (List.getElem_mem h3);simp at e;omega
theorem same_yes (ao bo:Option Addr)(n m c d:Nat)(za zb:List Int)(w:World)(ha:Byt w ao n c za)(hb:Byt w bo m d zb)(e:za=zb) :
  Calls Tryz.prog 88 #[.slice ao n c,.slice bo m d] w fun en w'=>en=.returned (.bool true)/\w'=w:=by
 subst e;have h1:=conv_str ha;have h2:=conv_str hb;clear ha hb;go_enter Tryz.func88,Tryz.ntmps88;go_wp2;go_ret;exact ⟨rfl,rfl⟩
end Go.Proofs.YteaahinjcfjngaaGreat
