/- Own contracts: texts and raw bytes of a Pen, the document's Text, an Eye's Text. No statement is proved here. -/
import Derived.Test.YtifhnidcodhoeaaEye
import Derived.Lib.AppendStr
import Derived.Laws.AppendOwnNone
namespace Go.Proofs.Ytifhnidcodhoeaa
open Go.RowKit
set_option linter.unusedVariables false

section
variable {P : Program} (w : World)
end

end Go.Proofs.Ytifhnidcodhoeaa
