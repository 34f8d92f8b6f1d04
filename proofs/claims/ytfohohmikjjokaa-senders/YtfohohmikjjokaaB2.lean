import Derived.Test.YtfohohmikjjokaaChecked
import Derived.Conc.MuLone
import Derived.KernelRfl
namespace Go.Proofs.Ytfohohmikjjokaa
abbrev muLink : Go.Conc.Locks.MuLink := { lock := 41, unlock := 42, ilock := 58, iunlock := 59, lockSlow := 71, unlockSlow := 74, disable := 67, enable := 69, acquire := 70, relMerge := 72, cas32 := 68, add32 := 73, tMutex := 103, tIMutex := 101, tPMutex := 127, tPIMutex := 134, tPI32 := 136, tUP := 138, tNoCopy := 99, tU32 := 23 }
theorem muLib : Go.Conc.Locks.MuLib Try.prog muLink :=
  ⟨Try.func41, Try.func42, Try.func58, Try.func59, Try.func67, Try.func69, Try.func70, Try.func72, Try.func68, Try.func73, Try.underlying101, Try.runUnderlying101, Try.sizeOf101, Try.isAgg101, Try.zeroValue101, Try.underlying103, Try.runUnderlying103, Try.sizeOf103, Try.isAgg103, Try.zeroValue103, Try.underlying127, Try.runUnderlying127, Try.sizeOf127, Try.isAgg127, Try.zeroValue127, Try.underlying134, Try.runUnderlying134, Try.sizeOf134, Try.isAgg134, Try.zeroValue134, Try.underlying136, Try.runUnderlying136, Try.sizeOf136, Try.isAgg136, Try.zeroValue136, Try.underlying138, Try.runUnderlying138, Try.sizeOf138, Try.isAgg138, Try.zeroValue138, Try.underlying99, Try.runUnderlying99, Try.sizeOf99, Try.isAgg99, Try.zeroValue99, Try.underlying21, Try.runUnderlying21, Try.sizeOf21, Try.isAgg21, Try.zeroValue21, (by kernel_rfl)⟩
end Go.Proofs.Ytfohohmikjjokaa
