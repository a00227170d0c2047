/- Own contracts: edits: one, by the document. No statement is proved here. -/
import Derived.Test.YtbokdgcdkmnldaaEj1
import Derived.Test.YtbokdgcdkmnldaaEj2
import Derived.Test.YtbokdgcdkmnldaaEj3
namespace Go.Proofs.Ytbokdgcdkmnldaa
set_option maxRecDepth 100000
open Go.RowKit
set_option linter.unusedVariables false
set_option linter.unusedSimpArgs false

theorem rone_any (w : World) (v : Value) (l : List El) (x : Ed) (hv : RowV w v l) (hb : l.length ≤ 1000) (hk : KOk l) : Calls Try.prog 12 #[v, .agg x.vals.toArray] w (OneP w (oneE l x)) := by
  by_cases h2 : x.op = 2
  · exact rone_2 w v l x hv hb hk h2
  · by_cases h3 : x.op = 3
    · exact rone_3 w v l x hv hb hk h3
    · exact rone_1 w v l x hv hb hk ⟨h2, h3⟩

end Go.Proofs.Ytbokdgcdkmnldaa
