/- Own contracts: one: kit. No statement is proved here. -/
import Derived.Test.YtifhnidcodhoeaaUj
namespace Go.Proofs.Ytifhnidcodhoeaa
set_option maxRecDepth 100000
open Go.RowKit
set_option linter.unusedVariables false
set_option linter.unusedSimpArgs false

def oneS : List El := [(El.mk 1 1 0 0 ({ data := #[97] } : ByteArray) 0 0 ByteArray.empty ByteArray.empty ByteArray.empty), (El.mk 2 1 1 0 ({ data := #[98] } : ByteArray) 0 0 ByteArray.empty ByteArray.empty ByteArray.empty), (El.mk 3 4 0 0 ByteArray.empty 0 0 ByteArray.empty ByteArray.empty ByteArray.empty), (El.mk 4 5 0 0 ByteArray.empty 1 3 ({ data := #[101] } : ByteArray) ByteArray.empty ByteArray.empty)]
/-- A cell of a row of one's own is there. -/
theorem own_cell {w : World} {base g cap n : Nat} {C : List El} (h : w.ownsRow base 35 10 (.slice (some ⟨g, 0, none⟩) n cap) n (elsV C)) (hn : C.length = n) (i : Nat) (hi : i < n) (j : Nat) (hj : j < 10) : ∃ v, w.cell? ⟨g, i * 10 + j, none⟩ = some v := by
  subst hn
  obtain ⟨g', o, h1, _, h3⟩ := (own_rowV h).one rfl i hi
  have hl : j < (C.getD i el0).vals.length := by rw [El.vlen]; exact hj
  rcases own_rowV h with ⟨h4, _⟩ | ⟨g2, o2, c2, h4, _, _, h5⟩
  · cases h4
  · injection h4 with q1 _ _
    injection q1 with q1
    injection q1 with q1 q2 _
    subst q1 q2
    have := h5 i hi j _ (List.getElem?_eq_getElem hl)
    exact ⟨_, by simpa using this⟩
/-- A row of elements lies in no block of a fault. -/
theorem app_ne {w : World} {b B : Nat} {v : Value} {l : List El} {cs : Array Value} (ho : OwV b w v l) (hB : w.heap[B]? = some (.cells cs 26 (0, 0))) : ∀ q, v.ownBlock = some q → q ≠ B := by
  intro q hq e
  subst e
  rcases ho.2 with ⟨rfl, _⟩ | ⟨g, cap, cur, rfl, _, h3, _⟩
  · cases hq
  · injection hq with hq
    subst hq
    rw [hB] at h3
    injection h3 with h3
    injection h3 with _ h4 _
    exact absurd h4 (by decide)

end Go.Proofs.Ytifhnidcodhoeaa
