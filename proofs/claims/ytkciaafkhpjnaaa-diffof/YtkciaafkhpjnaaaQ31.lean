/- Own texts, packed: Sv. No statement is proved here. -/
import Derived.Test.YtkciaafkhpjnaaaQ04
import Derived.Shelf.SlicesQ.Reverse
namespace Go.Proofs.Ytkciaafkhpjnaaa
set_option maxRecDepth 100000
open Go.Shelf Go.RowKit

def Try.revEl_ren : Go.Shelf.Ren := ⟨fun | 35 => 28 | n => n, fun | 22 => 25 | 23 => 38 | 3 => 3 | 4 => 4 | 0 => 0 | n => n, fun | n => n⟩
theorem Try.revEl : Go.Proofs.SlLaysE0.n35 Try.prog Try.revEl_ren := {
  mixed := by kernel_rfl
  f35 := ⟨Try.f28.name, by decide, Try.func28.trans (congrArg some (by kernel_rfl))⟩
  t0 := Try.underlying0
  a0 := Try.isAgg0
  z0 := Try.sizeOf0
  v0 := Try.zeroValue0
  t3 := Try.underlying3
  a3 := Try.isAgg3
  z3 := Try.sizeOf3
  v3 := Try.zeroValue3
  t4 := Try.underlying4
  a4 := Try.isAgg4
  z4 := Try.sizeOf4
  v4 := Try.zeroValue4
  t22 := Try.underlying25
  a22 := Try.isAgg25
  z22 := Try.sizeOf25
  v22 := Try.zeroValue25 }

end Go.Proofs.Ytkciaafkhpjnaaa
