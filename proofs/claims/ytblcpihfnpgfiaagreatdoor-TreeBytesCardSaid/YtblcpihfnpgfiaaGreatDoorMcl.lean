/- The contract of maps.Clone, laid at this seat's own program. No conditions beyond those in each statement. -/
import Derived.Shelf.SlGeneric
import Derived.Shelf.SlMaps.Clone
import Derived.Ground.SlmcProg
import Derived.Test.YtblcpihfnpgfiaaGreatDoorProg
namespace Go.Proofs
open Go.Shelf
def Tryz.mclA_ren : Go.Shelf.Ren := ⟨fun | 5 => 44 | 7 => 63 | n => n, fun | 23 => 68 | 25 => 9 | 3 => 40 | 4 => 4 | 20 => 20 | n => n, fun | n => n⟩
theorem Tryz.mclA : Go.Proofs.SlLaysW.n5 Tryz.prog Tryz.mclA_ren := {
  mixed := by kernel_rfl
  f5 := ⟨Tryz.f44.name, by decide, Tryz.func44.trans (congrArg some (by kernel_rfl))⟩
  f7 := Tryz.func63.trans (congrArg some (by kernel_rfl))
  t4 := Tryz.underlying4
  a4 := Tryz.isAgg4
  z4 := Tryz.sizeOf4
  v4 := Tryz.zeroValue4
  t20 := Tryz.underlying20
  a20 := Tryz.isAgg20
  z20 := Tryz.sizeOf20
  v20 := Tryz.zeroValue20
  t23 := Tryz.underlying68
  a23 := Tryz.isAgg68
  z23 := Tryz.sizeOf68
  v23 := Tryz.zeroValue68 }
end Go.Proofs
