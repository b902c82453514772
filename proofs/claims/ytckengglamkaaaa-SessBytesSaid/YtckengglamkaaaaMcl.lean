/- The contract of maps.Clone, laid at this seat's own program. No conditions beyond those in each statement. -/
import Derived.Shelf.SlGeneric
import Derived.Shelf.SlMaps.Clone
import Derived.Ground.SlmcProg
import Derived.Test.YtckengglamkaaaaProg
namespace Go.Proofs
open Go.Shelf
def Try.mclA_ren : Go.Shelf.Ren := ⟨fun | 5 => 35 | 7 => 45 | n => n, fun | 23 => 61 | 25 => 3 | 3 => 65 | 4 => 4 | 20 => 20 | n => n, fun | n => n⟩
theorem Try.mclA : Go.Proofs.SlLaysW.n5 Try.prog Try.mclA_ren := {
  mixed := by kernel_rfl
  f5 := ⟨Try.f35.name, by decide, Try.func35.trans (congrArg some (by kernel_rfl))⟩
  f7 := Try.func45.trans (congrArg some (by kernel_rfl))
  t4 := Try.underlying4
  a4 := Try.isAgg4
  z4 := Try.sizeOf4
  v4 := Try.zeroValue4
  t20 := Try.underlying20
  a20 := Try.isAgg20
  z20 := Try.sizeOf20
  v20 := Try.zeroValue20
  t23 := Try.underlying61
  a23 := Try.isAgg61
  z23 := Try.sizeOf61
  v23 := Try.zeroValue61 }
end Go.Proofs
