/- Own contracts: what an Eye's Num and End do. No statement is proved here. -/
import Derived.Test.YtifhnidcodhoeaaNumber
namespace Go.Proofs.Ytifhnidcodhoeaa
open Go.RowKit
set_option linter.unusedVariables false

end Go.Proofs.Ytifhnidcodhoeaa
