/- Own contracts: bounds, all. No statement is proved here. -/
import Derived.Test.YtokjlhpkjebnkaaWb0
import Derived.Test.YtokjlhpkjebnkaaWb1
import Derived.Test.YtokjlhpkjebnkaaWb5
import Derived.Test.YtokjlhpkjebnkaaWb7
namespace Go.Proofs.Ytokjlhpkjebnkaa
set_option maxRecDepth 100000
open Go.RowKit
set_option linter.unusedVariables false
set_option linter.unusedSimpArgs false

theorem wbounds_law (w : World) (how : Int) (more : Bool) (hh : 0 ≤ how ∧ how < 256) : Calls Try.prog 9 #[.int .u8 how, .bool more] w fun r w' => r = .returned (.bool true) ∧ Turn (fun _ => False) w w' := by
  have hm : how.tmod 8 = how % 8 := Int.tmod_eq_emod_of_nonneg hh.1
  rcases (by omega : how.tmod 8 = 0 ∨ how.tmod 8 = 1 ∨ how.tmod 8 = 2 ∨ how.tmod 8 = 3 ∨ how.tmod 8 = 4 ∨ how.tmod 8 = 5 ∨ how.tmod 8 = 6 ∨ how.tmod 8 = 7) with h | h | h | h | h | h | h | h <;> cases more
  · exact wbounds_0_false w how h
  · exact wbounds_0_true w how h
  · exact wbounds_1_false w how h
  · exact wbounds_1_true w how h
  · exact wbounds_2_false w how h
  · exact wbounds_2_true w how h
  · exact wbounds_3_false w how h
  · exact wbounds_3_true w how h
  · exact wbounds_4_false w how h
  · exact wbounds_4_true w how h
  · exact wbounds_5_false w how h
  · exact wbounds_5_true w how h
  · exact wbounds_6_false w how h
  · exact wbounds_6_true w how h
  · exact wbounds_7_false w how h
  · exact wbounds_7_true w how h
end Go.Proofs.Ytokjlhpkjebnkaa
