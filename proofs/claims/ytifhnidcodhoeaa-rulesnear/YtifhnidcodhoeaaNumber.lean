/- Own contracts: what the eye's number reader does. No statement is proved here. -/
import Derived.Test.YtifhnidcodhoeaaTake
namespace Go.Proofs.Ytifhnidcodhoeaa
open Go.RowKit
set_option linter.unusedVariables false

end Go.Proofs.Ytifhnidcodhoeaa
