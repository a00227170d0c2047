/- Own contracts: an element with another field. No statement is proved here. -/
import Derived.Test.YtifhnidcodhoeaaGt
import Derived.Laws.BitsAllLaws
namespace Go.Proofs.Ytifhnidcodhoeaa
set_option maxRecDepth 100000
open Go.RowKit
set_option linter.unusedVariables false
set_option linter.unusedSimpArgs false


end Go.Proofs.Ytifhnidcodhoeaa
