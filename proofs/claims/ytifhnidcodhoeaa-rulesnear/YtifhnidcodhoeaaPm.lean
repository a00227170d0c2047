/- Own contracts: what is put is found. No statement is proved here. -/
import Derived.Test.YtifhnidcodhoeaaRr
namespace Go.Proofs.Ytifhnidcodhoeaa
set_option maxRecDepth 100000
open Go.RowKit
set_option linter.unusedVariables false
set_option linter.unusedSimpArgs false


theorem mem_at {l : List El} {x : El} (h : x ∈ l) : ∃ k, k < l.length ∧ l.getD k el0 = x := by
  obtain ⟨i, hi, rfl⟩ := List.getElem_of_mem h
  exact ⟨i, hi, by simp [List.getD, hi]⟩
end Go.Proofs.Ytifhnidcodhoeaa
