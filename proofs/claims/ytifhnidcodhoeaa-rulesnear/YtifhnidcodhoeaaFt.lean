/- Own contracts: which values fit; the document's field. No statement is proved here. -/
import Derived.Test.YtifhnidcodhoeaaGt
import Derived.Laws.BitsAllLaws
namespace Go.Proofs.Ytifhnidcodhoeaa
set_option maxRecDepth 100000
open Go.RowKit
set_option linter.unusedVariables false
set_option linter.unusedSimpArgs false


theorem info3p : (Try.prog.info? 3).map (fun i => (i.zero, i.size, i.bytes)) = some (some (.int .i64 0), 1, 8) := by kernel_rfl
theorem info9p : (Try.prog.info? 9).map (fun i => (i.zero, i.size, i.bytes)) = some (some (.string e0), 1, 16) := by kernel_rfl
end Go.Proofs.Ytifhnidcodhoeaa
