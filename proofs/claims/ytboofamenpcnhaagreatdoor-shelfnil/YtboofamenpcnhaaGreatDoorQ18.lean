/- Own texts, packed: SBase. -/
import Derived.Test.YtboofamenpcnhaaGreatDoorQ00
import Derived.WalkKit
import Derived.WalkSpells
import Derived.WalkLawsBesides
import Derived.Laws.BytesArg
/- Own lemmas: what a call turned ('Turn'), where an appended slice lies, digits of base 128. No statement is proved here. -/
namespace Go.Proofs.YtboofamenpcnhaaGreatDoor
set_option maxRecDepth 100000
open Go.RowKit

section
variable {P : Program} (w : World)
end

/-- The digits of base 128 of a number, the lowest first, the last one with 128 more. -/
def numB (n : Nat) : List Int := if h : n < 128 then [(n : Int) + 128] else ((n % 128 : Nat) : Int) :: numB (n / 128)
termination_by n
decreasing_by omega

theorem numB_small {n : Nat} (h : n < 128) : numB n = [(n : Int) + 128] := by rw [numB]; simp [h]
theorem numB_big {n : Nat} (h : ¬ n < 128) : numB n = ((n % 128 : Nat) : Int) :: numB (n / 128) := by rw [numB]; simp [h]
theorem numB_pos (n : Nat) : 0 < (numB n).length := by rw [numB]; split <;> simp
theorem numB_len (k : Nat) : ∀ n, n < 128 ^ (k + 1) → (numB n).length ≤ k + 1 := by
  induction k with
  | zero => intro n h; rw [numB_small (by omega)]; simp
  | succ k ih =>
    intro n h
    by_cases hn : n < 128
    · rw [numB_small hn]; simp
    · rw [numB_big hn]
      have := ih (n / 128) (by rw [Nat.div_lt_iff_lt_mul (by omega)]; rw [Nat.pow_succ] at h; omega)
      simp; omega

end Go.Proofs.YtboofamenpcnhaaGreatDoor
