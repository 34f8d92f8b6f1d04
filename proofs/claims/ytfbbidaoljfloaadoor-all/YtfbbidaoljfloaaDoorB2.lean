import Derived.Test.YtfbbidaoljfloaaDoorChecked
import Derived.Conc.MuLone
import Derived.KernelRfl
namespace Go.Proofs.YtfbbidaoljfloaaDoor
abbrev muLink : Go.Conc.Locks.MuLink := { lock := 39, unlock := 40, ilock := 69, iunlock := 70, lockSlow := 97, unlockSlow := 100, disable := 93, enable := 95, acquire := 96, relMerge := 98, cas32 := 94, add32 := 99, tMutex := 103, tIMutex := 101, tPMutex := 163, tPIMutex := 186, tPI32 := 188, tUP := 190, tNoCopy := 99, tU32 := 55 }
theorem muLib : Go.Conc.Locks.MuLib Tryd.prog muLink :=
  ⟨Tryd.func39, Tryd.func40, Tryd.func69, Tryd.func70, Tryd.func93, Tryd.func95, Tryd.func96, Tryd.func98, Tryd.func94, Tryd.func99, Tryd.underlying101, Tryd.runUnderlying101, Tryd.sizeOf101, Tryd.isAgg101, Tryd.zeroValue101, Tryd.underlying103, Tryd.runUnderlying103, Tryd.sizeOf103, Tryd.isAgg103, Tryd.zeroValue103, Tryd.underlying163, Tryd.runUnderlying163, Tryd.sizeOf163, Tryd.isAgg163, Tryd.zeroValue163, Tryd.underlying186, Tryd.runUnderlying186, Tryd.sizeOf186, Tryd.isAgg186, Tryd.zeroValue186, Tryd.underlying188, Tryd.runUnderlying188, Tryd.sizeOf188, Tryd.isAgg188, Tryd.zeroValue188, Tryd.underlying190, Tryd.runUnderlying190, Tryd.sizeOf190, Tryd.isAgg190, Tryd.zeroValue190, Tryd.underlying99, Tryd.runUnderlying99, Tryd.sizeOf99, Tryd.isAgg99, Tryd.zeroValue99, Tryd.underlying21, Tryd.runUnderlying21, Tryd.sizeOf21, Tryd.isAgg21, Tryd.zeroValue21, (by kernel_rfl)⟩
end Go.Proofs.YtfbbidaoljfloaaDoor
