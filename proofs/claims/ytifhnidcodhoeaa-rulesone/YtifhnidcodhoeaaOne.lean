/- Own contracts: one: the law. No statement is proved here. -/
import Derived.Test.YtifhnidcodhoeaaOneA
import Derived.Test.YtifhnidcodhoeaaOneB
namespace Go.Proofs.Ytifhnidcodhoeaa
set_option maxRecDepth 100000
open Go.RowKit
set_option linter.unusedVariables false
set_option linter.unusedSimpArgs false

theorem one_law (w : World) (how : Int) (hh : 0 ≤ how ∧ how < 256) : Calls Try.prog 5 #[.int .u8 how] w fun e w' => e = .returned (.bool true) ∧ Turn (fun _ => False) w w' := by
  have hm : how.tmod 8 = how % 8 := Int.tmod_eq_emod_of_nonneg hh.1
  rcases (by omega : how.tmod 8 = 0 ∨ how.tmod 8 = 1 ∨ how.tmod 8 = 2 ∨ how.tmod 8 = 3 ∨ how.tmod 8 = 4 ∨ how.tmod 8 = 5 ∨ how.tmod 8 = 6 ∨ how.tmod 8 = 7) with h | h | h | h | h | h | h | h
  · exact one_0 w how h
  · exact one_1 w how h
  · exact one_2 w how h
  · exact one_3 w how h
  · exact one_4 w how h
  · exact one_5 w how h
  · exact one_6 w how h
  · exact one_7 w how h

end Go.Proofs.Ytifhnidcodhoeaa
