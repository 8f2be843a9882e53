import Derived.Test.YteaahinjcfjngaaGreatQ20
namespace Go.Proofs.YteaahinjcfjngaaGreat
open Go.RowKit
def fChanged:Nat->Nat
 | 0=>75
 | _+1=>179
def ChangedC (n:Nat):Prop:=∀ (b:Nat) (x:NdT n) (ka:Option Addr) (kn kc:Nat) (key:List Int) (na:Option Addr) (nn nc:Nat) (now:List PrT) (w:World),NodeT n w (.iface (tyN n) (.pointer (some ⟨b,0,none⟩))) x->OkT n x->Byt w ka kn kc key->Bt key->PsT w na nn nc now->NowT key now ->
 Calls Tryz.prog (fChanged n) #[.pointer (some ⟨b,0,none⟩),.slice ka kn kc,.slice na nn nc] w fun en w'=>ChT n (changedT n x key now) en w'/\w.grownBy w' none
theorem changedC0:ChangedC 0:=fun b x ka kn kc key na nn nc now w hx ox hk bt hn hv=>lchanged_some b x ka kn kc key na nn nc now w hx (LokT.of ox) hk bt hn hv ox.1
end Go.Proofs.YteaahinjcfjngaaGreat
