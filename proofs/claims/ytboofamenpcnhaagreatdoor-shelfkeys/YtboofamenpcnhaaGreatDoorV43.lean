/- Own texts, packed: R04. -/
import Derived.Test.YtboofamenpcnhaaGreatDoorV39
import Derived.Test.YtboofamenpcnhaaGreatDoorV42
namespace Go.Proofs.YtboofamenpcnhaaGreatDoor
open Go.ChangeShapes Go.WideShapes Go.ChangeAt Go.RowKit
set_option linter.unusedVariables false
set_option maxRecDepth 100000
end Go.Proofs.YtboofamenpcnhaaGreatDoor
