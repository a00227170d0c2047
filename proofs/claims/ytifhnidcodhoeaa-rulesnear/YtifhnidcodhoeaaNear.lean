/- Own contracts: near: the law. No statement is proved here. -/
import Derived.Test.YtifhnidcodhoeaaNea
import Derived.Test.YtifhnidcodhoeaaNec
import Derived.Test.YtifhnidcodhoeaaNed
namespace Go.Proofs.Ytifhnidcodhoeaa
set_option maxRecDepth 100000
open Go.RowKit
set_option linter.unusedVariables false
set_option linter.unusedSimpArgs false

theorem near_law (w : World) (va : Value) (l : List A4) (ai fld : Int) (vn : Int) (vs : ByteArray) (e : El) (how : Int) (hv : ActsV w va l) (hai : 0 ≤ ai ∧ ai < 256) (hfl : 0 ≤ fld ∧ fld < 256) (hho : 0 ≤ how ∧ how < 256) : Calls Try.prog 4 #[va, .int .u8 ai, .int .u8 fld, .agg (vl vn vs).toArray, .agg e.vals.toArray, .int .u8 how] w fun r w' => r = .returned (.bool true) ∧ Turn (fun _ => False) w w' := by
  by_cases hl : l.length ≤ 24
  case neg => exact near_big w va l ai fld vn vs e how hv (by omega)
  by_cases h3 : how.tmod 3 = 0
  · exact near_put0 w va l ai fld vn vs e how hv hl h3
  have hh3 : (how.tmod 3 == 0) = false := by simpa using h3
  by_cases hN : (makeE l).length = 0
  · exact near_put1 w va l ai fld vn vs e how hv hl _ rfl hh3 hN
  have hm : fld.tmod 9 = fld % 9 := Int.tmod_eq_emod_of_nonneg hfl.1
  rcases (by omega : fld.tmod 9 = 0 ∨ fld.tmod 9 = 1 ∨ fld.tmod 9 = 2 ∨ fld.tmod 9 = 3 ∨ fld.tmod 9 = 4 ∨ fld.tmod 9 = 5 ∨ fld.tmod 9 = 6 ∨ fld.tmod 9 = 7 ∨ fld.tmod 9 = 8) with h | h | h | h | h | h | h | h | h
  · exact near_f0 w va l ai fld vn vs e how hv hl hai _ rfl hh3 (by omega) h
  · exact near_f1 w va l ai fld vn vs e how hv hl hai _ rfl hh3 (by omega) h
  · exact near_f2 w va l ai fld vn vs e how hv hl hai _ rfl hh3 (by omega) h
  · exact near_f3 w va l ai fld vn vs e how hv hl hai _ rfl hh3 (by omega) h
  · exact near_f4 w va l ai fld vn vs e how hv hl hai _ rfl hh3 (by omega) h
  · exact near_f5 w va l ai fld vn vs e how hv hl hai _ rfl hh3 (by omega) h
  · exact near_f6 w va l ai fld vn vs e how hv hl hai _ rfl hh3 (by omega) h
  · exact near_f7 w va l ai fld vn vs e how hv hl hai _ rfl hh3 (by omega) h
  · exact near_f8 w va l ai fld vn vs e how hv hl hai _ rfl hh3 (by omega) h

end Go.Proofs.Ytifhnidcodhoeaa
