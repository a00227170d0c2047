/- Own texts, packed: Q01. -/
import Derived.Test.YtboofamenpcnhaaGreatDoorRows
import Derived.Test.YtboofamenpcnhaaGreatDoorV01
import Derived.Lib.Hide
import Derived.Deep.QuietTactic
import Derived.BigQuiet
import Derived.Deep.RegionHeld3
import Derived.Laws.BitsAllLaws
import Derived.Laws.MakeOwn
import Derived.Laws.CopyOwn
import Derived.RegionTactic
namespace Go.Proofs.YtboofamenpcnhaaGreatDoor
set_option maxRecDepth 100000
theorem start : True := trivial
end Go.Proofs.YtboofamenpcnhaaGreatDoor
