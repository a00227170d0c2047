/- Own: loops of DiskPlays. No statement is proved here. -/
import Derived.Test.YtckeackepolhdaaHelp2
namespace Go.Proofs.Ytckeackepolhdaa
open Go.RowKit
set_option linter.unusedVariables false
set_option linter.unusedSimpArgs false

theorem RSt.fix {w0 w : World} {D k SB : Nat} {d : DiskM} {F R : Nat → Prop} {vs : List Value} {av bv : Value} {us : List Value} {sl : List (List Int)} {wl : List (Nat × List Int)} (h : RSt w0 w D k SB d F R vs av bv us sl wl) (e1 : sl = d.safe) (e2 : wl = d.wet) : RSt w0 w D k SB d F R vs av bv us d.safe d.wet := by
  rw [← e1, ← e2]
  exact h
end Go.Proofs.Ytckeackepolhdaa
