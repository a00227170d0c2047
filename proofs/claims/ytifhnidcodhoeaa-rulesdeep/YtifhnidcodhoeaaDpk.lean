/- Own contracts: deep: kit. No statement is proved here. -/
import Derived.Test.YtifhnidcodhoeaaOka
namespace Go.Proofs.Ytifhnidcodhoeaa
set_option maxRecDepth 100000
open Go.RowKit
set_option linter.unusedVariables false
set_option linter.unusedSimpArgs false

def dE (i : Nat) : El := El.mk ((i : Int) + 1) 1 (i : Int) 0 ({ data := #[115] } : ByteArray) 0 0 ByteArray.empty ByteArray.empty ByteArray.empty
def deepL (k : Nat) : List El := (List.range k).map dE
theorem deepL_succ (k : Nat) : deepL (k + 1) = deepL k ++ [dE k] := by unfold deepL; rw [List.range_succ, List.map_append]; rfl
theorem deepL_len (k : Nat) : (deepL k).length = k := by simp [deepL]
def ringL (k : Nat) : List El := (deepL k).set 0 { (deepL k).getD 0 el0 with par := (k : Int) }
theorem ringL_len (k : Nat) : (ringL k).length = k := by simp [ringL, deepL_len]
theorem deep_check : ∀ k : Fin 40, checkE (deepL (k.val + 1)) = (0, 0) := by decide +kernel
theorem ring_check : ∀ k : Fin 40, checkE (ringL (k.val + 1)) = (5, 1) := by decide +kernel

end Go.Proofs.Ytifhnidcodhoeaa
