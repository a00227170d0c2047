/- Own texts, packed: Q03. -/
import Derived.Test.YtboofamenpcnhaaGreatDoorV02
import Derived.Test.YtboofamenpcnhaaGreatDoorRows
import Derived.Test.YtboofamenpcnhaaGreatDoorV27
import Derived.Lib.Hide
import Derived.Deep.QuietTactic
import Derived.BigQuiet
import Derived.Deep.RegionHeld3
import Derived.Laws.BitsAllLaws
import Derived.Laws.MakeOwn
import Derived.Laws.CopyOwn
import Derived.RegionTactic
namespace Go.Proofs.YtboofamenpcnhaaGreatDoor
set_option maxRecDepth 100000
end Go.Proofs.YtboofamenpcnhaaGreatDoor
