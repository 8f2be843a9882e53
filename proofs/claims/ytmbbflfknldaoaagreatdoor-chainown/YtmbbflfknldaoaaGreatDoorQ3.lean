import Derived.Test.YtmbbflfknldaoaaGreatDoorQ2
import Derived.Lib.Bytealg
import Derived.Lib.BytesEntry
namespace Go.Proofs.YtmbbflfknldaoaaGreatDoor
open Go.RowKit
def cmpZ : List Int → List Int → Int
 | [], [] => 0
 | [], _ :: _ => -1
 | _ :: _, [] => 1
 | a :: al, b :: bl => if a < b then -1 else if b < a then 1 else cmpZ al bl
def com : List Int → List Int → Nat
 | a :: al, b :: bl => if a = b then com al bl + 1 else 0
 | _, _ => 0
def comAll (f : List Int) (n : Nat) (l : List (List Int)) : Nat := l.foldl (fun n s => min n (com f s)) n
end Go.Proofs.YtmbbflfknldaoaaGreatDoor
