/- Own texts, packed: EStart. -/
import Derived.Test.YtboofamenpcnhaaGreatDoorQ01
import Derived.Test.YtboofamenpcnhaaGreatDoorRows
import Derived.Test.YtboofamenpcnhaaGreatDoorQ02
import Derived.Lib.Hide
import Derived.Deep.QuietTactic
import Derived.BigQuiet
import Derived.Deep.RegionHeld3
import Derived.Laws.BitsAllLaws
import Derived.Laws.MakeOwn
import Derived.Laws.CopyOwn
import Derived.RegionTactic
/- Own: what all texts of this seat import. -/
namespace Go.Proofs.YtboofamenpcnhaaGreatDoor
set_option maxRecDepth 100000
end Go.Proofs.YtboofamenpcnhaaGreatDoor
