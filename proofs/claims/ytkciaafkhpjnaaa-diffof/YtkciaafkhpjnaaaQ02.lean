/- Own texts, packed: Ref. No statement is proved here. -/
import Derived.Test.YtkciaafkhpjnaaaQ01
import Derived.Deep.RegionHeld3
namespace Go.Proofs.Ytkciaafkhpjnaaa
open Go.RowKit
set_option linter.unusedVariables false

theorem PenIs.turn {w w' : World} {base B : Nat} {v : Value} {xs : List Int} {S : Nat → Prop} (h : PenIs w base B v xs) (ht : Turn S w w') (hB : ¬ S B) (hv : ∀ k, v.ownBlock = some k → ¬ S k) : PenIs w' base B v xs :=
  ⟨(ht.cell (p := ⟨B, 0, none⟩) h.lt hB).trans h.cell, (ht.frozen (p := ⟨B, 0, none⟩) h.lt hB).trans h.open_, ht.owns h.own hv, h.apart, Nat.lt_of_lt_of_le h.lt ht.size⟩

/-- The value of a pen that holds n bytes, n at least one. -/
theorem PenIs.value {w : World} {base B : Nat} {v : Value} {xs : List Int} (h : PenIs w base B v xs) (n : Nat) (hn : xs.length = n) (h0 : 0 < n) : ∃ g cap, v = .slice (some ⟨g, 0, none⟩) n cap := by
  subst hn
  rcases h.own.2 with ⟨_, h⟩ | ⟨g, cap', _, h, _⟩
  · omega
  · exact ⟨g, cap', h⟩

end Go.Proofs.Ytkciaafkhpjnaaa
