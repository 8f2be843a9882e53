import Derived.Test.YtiljdhhfhjhhiaaBase
import Derived.Test.YtiljdhhfhjhhiaaProg
import Derived.Conc.MuLone
import Derived.KernelRfl
namespace Go.Proofs.Ytiljdhhfhjhhiaa
open Go.RowKit
/-- The numbers under which the dump holds sync.Mutex's functions and types. -/
abbrev muL : Go.Conc.Locks.MuLink := { lock := 45, unlock := 46, ilock := 58, iunlock := 59, lockSlow := 64, unlockSlow := 67, disable := 60, enable := 62, acquire := 63, relMerge := 65, cas32 := 61, add32 := 66, tMutex := 74, tIMutex := 72, tPMutex := 96, tPIMutex := 97, tPI32 := 99, tUP := 101, tNoCopy := 69, tU32 := 70 }
theorem muB : Go.Conc.Locks.MuLib Try.prog muL :=
  ⟨Try.func45, Try.func46, Try.func58, Try.func59, Try.func60, Try.func62, Try.func63, Try.func65, Try.func61, Try.func66, Try.underlying72, Try.runUnderlying72, Try.sizeOf72, Try.isAgg72, Try.zeroValue72, Try.underlying74, Try.runUnderlying74, Try.sizeOf74, Try.isAgg74, Try.zeroValue74, Try.underlying96, Try.runUnderlying96, Try.sizeOf96, Try.isAgg96, Try.zeroValue96, Try.underlying97, Try.runUnderlying97, Try.sizeOf97, Try.isAgg97, Try.zeroValue97, Try.underlying99, Try.runUnderlying99, Try.sizeOf99, Try.isAgg99, Try.zeroValue99, Try.underlying101, Try.runUnderlying101, Try.sizeOf101, Try.isAgg101, Try.zeroValue101, Try.underlying69, Try.runUnderlying69, Try.sizeOf69, Try.isAgg69, Try.zeroValue69, Try.underlying21, Try.runUnderlying21, Try.sizeOf21, Try.isAgg21, Try.zeroValue21, (by kernel_rfl)⟩
end Go.Proofs.Ytiljdhhfhjhhiaa
