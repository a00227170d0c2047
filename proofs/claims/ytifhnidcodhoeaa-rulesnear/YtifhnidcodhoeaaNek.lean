/- Own contracts: near: kit. No statement is proved here. -/
import Derived.Test.YtifhnidcodhoeaaOka
import Derived.Test.YtifhnidcodhoeaaUk
import Derived.Test.YtifhnidcodhoeaaOv
namespace Go.Proofs.Ytifhnidcodhoeaa
set_option maxRecDepth 100000
open Go.RowKit
set_option linter.unusedVariables false
set_option linter.unusedSimpArgs false

/-- A cell of a row of one's own. -/
theorem own_cellv {w : World} {base g cap n : Nat} {C : List El} (h : w.ownsRow base 35 10 (.slice (some ⟨g, 0, none⟩) n cap) n (elsV C)) (hn : C.length = n) (i : Nat) (hi : i < n) (j : Nat) (hj : j < 10) : w.cell? ⟨g, i * 10 + j, none⟩ = (C.getD i el0).vals[j]? := by
  subst hn
  have hl : j < (C.getD i el0).vals.length := by rw [El.vlen]; exact hj
  rcases own_rowV h with ⟨h4, _⟩ | ⟨g2, o2, c2, h4, _, _, h5⟩
  · cases h4
  · injection h4 with q1 _ _
    injection q1 with q1
    injection q1 with q1 q2 _
    subst q1 q2
    have := h5 i hi j _ (List.getElem?_eq_getElem hl)
    rw [Nat.zero_add] at this
    rw [this, List.getElem?_eq_getElem hl]

end Go.Proofs.Ytifhnidcodhoeaa
