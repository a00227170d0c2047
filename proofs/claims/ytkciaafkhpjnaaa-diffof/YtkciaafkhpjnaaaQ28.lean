/- Own texts, packed: Lb. No statement is proved here. -/
import Derived.Test.YtkciaafkhpjnaaaQ27
import Derived.Test.YtkciaafkhpjnaaaQ18
namespace Go.Proofs.Ytkciaafkhpjnaaa
set_option maxRecDepth 100000
open Go.RowKit
set_option linter.unusedVariables false
set_option linter.unusedSimpArgs false

/-- A chart that a law holds: an argument's, or in a block of elements. -/
def ChV (w0 w : World) (v : Value) (l : List El) : Prop := RowV w v l ∧ (0 < l.length → ∀ q, v.ownBlock = some q → q < w0.heap.size ∨ ∃ cs, w.heap[q]? = some (.cells cs 38 (0, 0)))
theorem RowV.turn2 {w w' : World} {v : Value} {l : List El} {G : Nat → Prop} (h : RowV w v l) (t : Turn G w w') (hn : 0 < l.length → ∀ q, v.ownBlock = some q → ¬ G q) : RowV w' v l := by
  by_cases h0 : 0 < l.length
  · exact h.turn t (hn h0)
  · rcases h with h | ⟨g, o, c, h1, h2, _, _⟩
    · exact .inl h
    · exact .inr ⟨g, o, c, h1, h2, fun h => absurd h h0, fun k hk => absurd (by omega) h0⟩
theorem ChV.turn {w0 w w' : World} {v : Value} {l : List El} (h : ChV w0 w v l) (t : Turn (fun _ => False) w w') : ChV w0 w' v l :=
  ⟨h.1.turn t (fun _ _ => id), fun h0 q hq => (h.2 h0 q hq).imp id (fun ⟨cs, hc⟩ => ⟨cs, (t.block q (Array.getElem?_eq_some_iff.1 hc).1 id).trans hc⟩)⟩
theorem ChV.own {w0 w w' : World} {v yv : Value} {l : List El} {ys : List Ed} (h : ChV w0 w v l) (hy : OwE w0.heap.size w yv ys) (t : Turn (fun q => yv.ownBlock = some q) w w') : ChV w0 w' v l := by
  have ne : 0 < l.length → ∀ q, v.ownBlock = some q → ¬ yv.ownBlock = some q := fun h0 q hq e => by
    rcases hy.2 with ⟨rfl, _⟩ | ⟨g, cap, cur, rfl, hg, hh, _⟩
    · cases e
    · injection e with e
      subst e
      rcases h.2 h0 g hq with h1 | ⟨cs, h1⟩
      · omega
      · rw [hh] at h1
        injection h1 with h1
        injection h1 with _ h2 _
        exact absurd h2 (by decide)
  refine ⟨h.1.turn2 t ne, fun h0 q hq => (h.2 h0 q hq).imp id (fun ⟨cs, hc⟩ => ⟨cs, (t.block q (Array.getElem?_eq_some_iff.1 hc).1 (ne h0 q hq)).trans hc⟩)⟩
theorem ChV.new {w0 w : World} {v : Value} {l : List El} (h : RowV w v l) (t : Ty24 w v) : ChV w0 w v l := ⟨h, fun _ q hq => .inr (t q hq)⟩
theorem ChV.arg {w w' : World} {v : Value} {l : List El} (h : RowV w v l) (t : Turn (fun _ => False) w w') : ChV w w' v l := by
  refine ⟨h.turn t (fun _ _ => id), fun h0 q hq => .inl ?_⟩
  rcases h with ⟨rfl, _⟩ | ⟨g, o, c, rfl, _, h3, _⟩
  · cases hq
  · injection hq with hq
    exact hq ▸ h3 h0
end Go.Proofs.Ytkciaafkhpjnaaa
