/- Own: what all texts of this seat import. -/
import Derived.Test.YtakmkkgpkbpbkaaRows
import Derived.Test.YtakmkkgpkbpbkaaBase
import Derived.Lib.Hide
import Derived.Deep.QuietTactic
import Derived.BigQuiet
import Derived.Deep.RegionHeld3
import Derived.Laws.BitsAllLaws
import Derived.Laws.MakeOwn
import Derived.Laws.CopyOwn
import Derived.RegionTactic
namespace Go.Proofs.Ytakmkkgpkbpbkaa
theorem start : True := trivial
end Go.Proofs.Ytakmkkgpkbpbkaa
