/- Where the functions of the library that the program calls lie in this program: the numbers, and that each body is the one that the library speaks of. -/
import Derived.Shelf.SlGeneric
import Derived.Shelf.SlLaysE0
import Derived.Test.YtdapdpmplbifdaaDoorRows
namespace Go.Proofs.YtdapdpmplbifdaaDoor
open Go.Shelf
def Tryd.reverseL_ren : Go.Shelf.Ren := ⟨fun | 35 => 34 | n => n, fun | 22 => 29 | 23 => 31 | 3 => 3 | 4 => 4 | 0 => 0 | n => n, fun | n => n⟩
theorem Tryd.reverseL : Go.Proofs.SlLaysE0.n35 Tryd.prog Tryd.reverseL_ren := {
  mixed := by kernel_rfl
  f35 := ⟨Tryd.f34.name, by decide, Tryd.func34.trans (congrArg some (by kernel_rfl))⟩
  t0 := Tryd.underlying0
  a0 := Tryd.isAgg0
  z0 := Tryd.sizeOf0
  v0 := Tryd.zeroValue0
  t3 := Tryd.underlying3
  a3 := Tryd.isAgg3
  z3 := Tryd.sizeOf3
  v3 := Tryd.zeroValue3
  t4 := Tryd.underlying4
  a4 := Tryd.isAgg4
  z4 := Tryd.sizeOf4
  v4 := Tryd.zeroValue4
  t22 := Tryd.underlying29
  a22 := Tryd.isAgg29
  z22 := Tryd.sizeOf29
  v22 := Tryd.zeroValue29 }
end Go.Proofs.YtdapdpmplbifdaaDoor
