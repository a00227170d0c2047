/- Own contracts: ends of proofs. No statement is proved here. -/
import Derived.Test.YtifhnidcodhoeaaOa
namespace Go.Proofs.Ytifhnidcodhoeaa
set_option maxRecDepth 100000
open Go.RowKit
set_option linter.unusedVariables false
set_option linter.unusedSimpArgs false

theorem Turn.below {S : Nat → Prop} {w w' : World} {B : Nat} (h : Turn S w w') (hB : B ≤ w.heap.size) (hS : ∀ k, k < B → ¬ S k) : Below B w w' :=
  ⟨h.os, h.tape, h.output, h.size, fun k hk => h.block k (by omega) (hS k hk)⟩
theorem laidOut : laidOutB Try.prog = true := by kernel_rfl

end Go.Proofs.Ytifhnidcodhoeaa
