import Derived.Test.YtcjgmiilfjjbcaaGreatDoorSrI
namespace Go.Proofs.YtcjgmiilfjjbcaaGreatDoor
open Go.RowKit

def tx1 : List UInt8 := [99, 111, 112, 112, 105, 99, 101, 32, 57, 10, 10, 112, 117, 116, 32, 54, 49, 32, 55, 56, 10, 32, 115, 99, 97, 110, 32, 45, 32, 45, 32, 45, 49, 32, 35, 32, 97, 108, 108, 10, 99, 114, 97, 115, 104, 32, 108, 32, 107, 32, 116, 49, 48, 48, 10]
def tx2 : List UInt8 := [99, 111, 112, 112, 105, 99, 101, 32, 57, 10, 112, 117, 116, 115, 32, 54, 49, 32, 55, 56, 10]
def tx3 : List UInt8 := [99, 111, 112, 112, 105, 99, 101, 32, 57, 10, 112, 117, 116, 32, 54, 49, 32, 55, 56, 10, 115, 99, 97, 110, 32, 45, 32, 45, 32, 45, 49, 10, 99, 114, 97, 115, 104, 32, 108, 32, 107, 32, 116, 49, 48, 48, 10]
def op1 : Opq := ⟨3, 0, 0, 0, [97], [120], [], []⟩
def op2 : Opq := ⟨6, -1, 0, 0, [], [], [], []⟩
def op3 : Opq := ⟨16, 0, 0, 0, [], [], [], [(0, 0), (1, 0), (2, 100)]⟩
def op4 : Opq := ⟨7, 1, 0, 0, [], [], [], []⟩
theorem psc_1 : psc tx1 = .ok (9, [op1, op2, op3]) := by kernel_rfl
theorem psc_2 : psc tx2 = .error (2, 231) := by kernel_rfl
theorem prt_1 : prt 9 [op1, op2, op3] = .ok tx3 := by kernel_rfl
theorem prt_2 : prt 9 [op4] = .error 244 := by kernel_rfl
theorem wrd_22 : wrd 22 = [99, 111, 109, 112, 97, 99, 116] := by kernel_rfl
end Go.Proofs.YtcjgmiilfjjbcaaGreatDoor
