/- Own texts, packed: CBase. -/
import Derived.Test.YtnenkclihgeacaaDoorP00
import Derived.WalkKit
import Derived.WalkSpells
import Derived.WalkLawsBesides
import Derived.Laws.BytesArg
/- Own lemmas: what a call turned ('Turn'), where an appended slice lies. No statement is proved here. -/
namespace Go.Proofs.YtnenkclihgeacaaDoor
set_option maxRecDepth 100000
open Go.RowKit

section
variable {P : Program} (w : World)
end

end Go.Proofs.YtnenkclihgeacaaDoor
