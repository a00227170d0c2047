/- Own: the loops of DiskPlays, and what its reference keeps. No statement is proved here. -/
import Derived.Test.YtckeackepolhdaaTwins
import Derived.Test.YtckeackepolhdaaActs
namespace Go.Proofs.Ytckeackepolhdaa
open Go.RowKit
set_option linter.unusedVariables false
/-- The loops of a code, in the order of the text. -/
def loopsOf : Code → List Code
  | .loop c => c :: loopsOf c
  | .seq a b => loopsOf a ++ loopsOf b
  | .block _ c => loopsOf c
  | .scope c => loopsOf c
  | .cond _ a b => loopsOf a ++ loopsOf b
  | _ => []
noncomputable def playLoops : List Code := match Try.f3.body with | some c => loopsOf c | none => []
noncomputable def playBody (n : Nat) : Code := playLoops.getD n .skip
/-- The first region of a code. -/
def firstRegion : Code → Option Nat
  | .region i _ _ => some i
  | .loop c => firstRegion c
  | .seq a b => match firstRegion a with
    | some i => some i
    | none => firstRegion b
  | .block _ c => firstRegion c
  | .scope c => firstRegion c
  | _ => none
/-- What the reference finds for a sector: the last of the first j writes that are there, or what was safe. -/
def lastV (init : Value) (s : Nat) (ks : List Nat) (us : List Value) : Nat → Value
  | 0 => init
  | j + 1 => if ks.getD j 0 = s then us.getD j undef else lastV init s ks us j
end Go.Proofs.Ytckeackepolhdaa
