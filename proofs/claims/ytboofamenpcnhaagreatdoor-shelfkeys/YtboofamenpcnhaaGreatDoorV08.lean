/- Own texts, packed: Q18. -/
import Derived.Test.YtboofamenpcnhaaGreatDoorV01
import Derived.WalkKit
import Derived.WalkSpells
import Derived.WalkLawsBesides
import Derived.Laws.BytesArg
namespace Go.Proofs.YtboofamenpcnhaaGreatDoor
set_option maxRecDepth 100000
open Go.RowKit
section
variable {P : Program} (w : World)
end
end Go.Proofs.YtboofamenpcnhaaGreatDoor
