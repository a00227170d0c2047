/- Own contracts: bytes that begin with no number. No statement is proved here. -/
import Derived.Test.YtifhnidcodhoeaaWg
namespace Go.Proofs.Ytifhnidcodhoeaa
set_option maxRecDepth 100000
open Go.RowKit
set_option linter.unusedVariables false
set_option linter.unusedSimpArgs false


def Bytes8 (xs : List Int) : Prop := ∀ x ∈ xs, 0 ≤ x ∧ x ≤ 255
end Go.Proofs.Ytifhnidcodhoeaa
