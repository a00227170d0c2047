/- Own contracts: what an Eye's take and Raw do. No statement is proved here. -/
import Derived.Test.YtifhnidcodhoeaaEye
namespace Go.Proofs.Ytifhnidcodhoeaa
open Go.RowKit
set_option linter.unusedVariables false

end Go.Proofs.Ytifhnidcodhoeaa
