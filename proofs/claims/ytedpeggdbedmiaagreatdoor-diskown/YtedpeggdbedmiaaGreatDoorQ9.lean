import Derived.Test.YtedpeggdbedmiaaGreatDoorQ2
import Derived.Conc.MuLone
import Derived.KernelRfl
import Derived.Test.YtedpeggdbedmiaaGreatDoorProg
namespace Go.Proofs.YtedpeggdbedmiaaGreatDoor
open Go.RowKit
abbrev muL : Go.Conc.Locks.MuLink := { lock := 21, unlock := 22, ilock := 34, iunlock := 35, lockSlow := 93, unlockSlow := 96, disable := 89, enable := 91, acquire := 92, relMerge := 94, cas32 := 90, add32 := 95, tMutex := 74, tIMutex := 72, tPMutex := 84, tPIMutex := 89, tPI32 := 91, tUP := 93, tNoCopy := 69, tU32 := 70 }
theorem muB : Go.Conc.Locks.MuLib Tryz.prog muL :=
 ⟨Tryz.func21, Tryz.func22, Tryz.func34, Tryz.func35, Tryz.func89, Tryz.func91, Tryz.func92, Tryz.func94, Tryz.func90, Tryz.func95, Tryz.underlying72, Tryz.runUnderlying72, Tryz.sizeOf72, Tryz.isAgg72, Tryz.zeroValue72, Tryz.underlying74, Tryz.runUnderlying74, Tryz.sizeOf74, Tryz.isAgg74, Tryz.zeroValue74, Tryz.underlying84, Tryz.runUnderlying84, Tryz.sizeOf84, Tryz.isAgg84, Tryz.zeroValue84, Tryz.underlying89, Tryz.runUnderlying89, Tryz.sizeOf89, Tryz.isAgg89, Tryz.zeroValue89, Tryz.underlying91, Tryz.runUnderlying91, Tryz.sizeOf91, Tryz.isAgg91, Tryz.zeroValue91, Tryz.underlying93, Tryz.runUnderlying93, Tryz.sizeOf93, Tryz.isAgg93, Tryz.zeroValue93, Tryz.underlying69, Tryz.runUnderlying69, Tryz.sizeOf69, Tryz.isAgg69, Tryz.zeroValue69, Tryz.underlying21, Tryz.runUnderlying21, Tryz.sizeOf21, Tryz.isAgg21, Tryz.zeroValue21, (by kernel_rfl)⟩
end Go.Proofs.YtedpeggdbedmiaaGreatDoor
