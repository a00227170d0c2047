/- Own: what all texts of this seat import. -/
import Derived.Test.YtmhdcpkncaghpaaRows
import Derived.Test.YtmhdcpkncaghpaaBase
import Derived.Lib.Hide
import Derived.Deep.QuietTactic
import Derived.BigQuiet
import Derived.Deep.RegionHeld3
import Derived.Laws.BitsAllLaws
import Derived.Laws.MakeOwn
import Derived.Laws.CopyOwn
import Derived.RegionTactic
namespace Go.Proofs.Ytmhdcpkncaghpaa
theorem start : True := trivial
end Go.Proofs.Ytmhdcpkncaghpaa
