/- Own texts, packed: R03. -/
import Derived.Test.YtboofamenpcnhaaGreatDoorV40
import Derived.Test.YtboofamenpcnhaaGreatDoorV41
namespace Go.Proofs.YtboofamenpcnhaaGreatDoor
set_option maxRecDepth 100000
open Go.RowKit Go.Shelf
set_option linter.unusedVariables false
set_option linter.unusedSimpArgs false
end Go.Proofs.YtboofamenpcnhaaGreatDoor
