/- Own: what all texts of this seat import. -/
import Derived.Test.YtckeackepolhdaaRows
import Derived.Test.YtckeackepolhdaaBase
import Derived.Lib.Hide
import Derived.Deep.QuietTactic
import Derived.BigQuiet
import Derived.Deep.RegionHeld3
import Derived.Laws.BitsAllLaws
import Derived.Laws.MakeOwn
import Derived.Laws.CopyOwn
import Derived.RegionTactic
namespace Go.Proofs.Ytckeackepolhdaa
theorem start : True := trivial
end Go.Proofs.Ytckeackepolhdaa
