/-
  No cell of these rows narrows 'for every input' (looked for: loops, veiled, ifaces, maps, wideKeys, modest, calm, conditions, laid).
  DERIVED. THE GIVEN ROWS OF THIS SEAT. 5 by the template 'for every input the law returns true; each argument reads behind the call as it read before'; 0 by the template 'total and deterministic' (their statements: YtbokdgcdkmnldaaTotals.lean).
  GIVEN WITH THE SEED: the statements are not yours to turn. If you find one false, say at which input.
  Laid BY PROGRAM, IN A SANDBOX (cutbox-rows.mjs): the forced cells as the released guide's own fill.sh prints them over the translation d01cb2723bf51bea… (all of the seat's roots in one cut). By AI agents, Wed Nov 11 2026. No macro, syntax, notation, axiom, sorry.
-/
import Derived.Test.YtbokdgcdkmnldaaChecked
import GoSem.Claim
import GoSem.ClaimJoined
import GoSem.ClaimMapViews
import Derived.JoinedTies
import Derived.KernelRfl
namespace Go.Proofs.Ytbokdgcdkmnldaa
/- THE CELL 'sum', in the pinned program and in every row, IS THE sha256 OF THE DUMP (.gsa) THAT YtbokdgcdkmnldaaProg.lean LOADS. Nothing in Lean hashes anything: it is a label: what it is worth is what the hold of that sum in a sandbox is worth. -/
noncomputable def Try.pinned : Pinned := { name := "ytbokdgcdkmnldaa", sum := "d01cb2723bf51bea0def4bb6828e241c5b09b02d4d0ea37a78eaa473ef507b5a", checked := Try.checked }
namespace Rows
def none {H : Type} : Left H := { results := [], args := [] }

/-- 'interleaflaw12.EditOne': WHATEVER THE INPUT: true; the input reads as it did. -/
def editOneSpec : ChangeSpec := { name := "editOne", fn := fun _ => fun
  | [d1, d2, d3, d4] => { results := [.lit (.bool true)], args := [d1, d2, d3, d4] }
  | _ => none }
def editOneRow : OpenClaim := { program := "ytbokdgcdkmnldaa", sum := "d01cb2723bf51bea0def4bb6828e241c5b09b02d4d0ea37a78eaa473ef507b5a", func := "interleaf/interleaflaw12.EditOne", spec := "editOne", unfollowed := true, recurses := true, apart := false }
def EditOneSaid : Prop := editOneRow.holds Try.pinned (OpenSpec.ofChange editOneSpec)

/-- ITS FALSE NEIGHBOUR: 'it returns false'. Refute it at one input. -/
def editOneWrong : ChangeSpec := { name := "editOne", fn := fun _ => fun
  | [d1, d2, d3, d4] => { results := [.lit (.bool false)], args := [d1, d2, d3, d4] }
  | _ => none }
def EditOneWrongFalsely : Prop := editOneRow.holds Try.pinned (OpenSpec.ofChange editOneWrong)

/-- 'interleaflaw12.EditBack': WHATEVER THE INPUT: true; the input reads as it did. -/
def editBackSpec : ChangeSpec := { name := "editBack", fn := fun _ => fun
  | [d1, d2, d3, d4] => { results := [.lit (.bool true)], args := [d1, d2, d3, d4] }
  | _ => none }
def editBackRow : OpenClaim := { program := "ytbokdgcdkmnldaa", sum := "d01cb2723bf51bea0def4bb6828e241c5b09b02d4d0ea37a78eaa473ef507b5a", func := "interleaf/interleaflaw12.EditBack", spec := "editBack", unfollowed := true, recurses := true, apart := false }
def EditBackSaid : Prop := editBackRow.holds Try.pinned (OpenSpec.ofChange editBackSpec)

/-- ITS FALSE NEIGHBOUR: 'it returns false'. Refute it at one input. -/
def editBackWrong : ChangeSpec := { name := "editBack", fn := fun _ => fun
  | [d1, d2, d3, d4] => { results := [.lit (.bool false)], args := [d1, d2, d3, d4] }
  | _ => none }
def EditBackWrongFalsely : Prop := editBackRow.holds Try.pinned (OpenSpec.ofChange editBackWrong)

/-- 'interleaflaw12.EditClasses': WHATEVER THE INPUT: true; the input reads as it did. -/
def editClassesSpec : ChangeSpec := { name := "editClasses", fn := fun _ => fun
  | [d1, d2] => { results := [.lit (.bool true)], args := [d1, d2] }
  | _ => none }
def editClassesRow : OpenClaim := { program := "ytbokdgcdkmnldaa", sum := "d01cb2723bf51bea0def4bb6828e241c5b09b02d4d0ea37a78eaa473ef507b5a", func := "interleaf/interleaflaw12.EditClasses", spec := "editClasses", apart := false }
def EditClassesSaid : Prop := editClassesRow.holds Try.pinned (OpenSpec.ofChange editClassesSpec)

/-- ITS FALSE NEIGHBOUR: 'it returns false'. Refute it at one input. -/
def editClassesWrong : ChangeSpec := { name := "editClasses", fn := fun _ => fun
  | [d1, d2] => { results := [.lit (.bool false)], args := [d1, d2] }
  | _ => none }
def EditClassesWrongFalsely : Prop := editClassesRow.holds Try.pinned (OpenSpec.ofChange editClassesWrong)

/-- 'interleaflaw12.EditAll': WHATEVER THE INPUT: true; the input reads as it did. -/
def editAllSpec : ChangeSpec := { name := "editAll", fn := fun _ => fun
  | [d1, d2, d3] => { results := [.lit (.bool true)], args := [d1, d2, d3] }
  | _ => none }
def editAllRow : OpenClaim := { program := "ytbokdgcdkmnldaa", sum := "d01cb2723bf51bea0def4bb6828e241c5b09b02d4d0ea37a78eaa473ef507b5a", func := "interleaf/interleaflaw12.EditAll", spec := "editAll", unfollowed := true, recurses := true, apart := false }
def EditAllSaid : Prop := editAllRow.holds Try.pinned (OpenSpec.ofChange editAllSpec)

/-- ITS FALSE NEIGHBOUR: 'it returns false'. Refute it at one input. -/
def editAllWrong : ChangeSpec := { name := "editAll", fn := fun _ => fun
  | [d1, d2, d3] => { results := [.lit (.bool false)], args := [d1, d2, d3] }
  | _ => none }
def EditAllWrongFalsely : Prop := editAllRow.holds Try.pinned (OpenSpec.ofChange editAllWrong)

/-- 'interleaflaw12.EditStands': WHATEVER THE INPUT: true; the input reads as it did. -/
def editStandsSpec : ChangeSpec := { name := "editStands", fn := fun _ => fun
  | [d] => { results := [.lit (.bool true)], args := [d] }
  | _ => none }
def editStandsRow : OpenClaim := { program := "ytbokdgcdkmnldaa", sum := "d01cb2723bf51bea0def4bb6828e241c5b09b02d4d0ea37a78eaa473ef507b5a", func := "interleaf/interleaflaw12.EditStands", spec := "editStands", unfollowed := true, recurses := true, apart := false }
def EditStandsSaid : Prop := editStandsRow.holds Try.pinned (OpenSpec.ofChange editStandsSpec)

/-- ITS FALSE NEIGHBOUR: 'it returns false'. Refute it at one input. -/
def editStandsWrong : ChangeSpec := { name := "editStands", fn := fun _ => fun
  | [d] => { results := [.lit (.bool false)], args := [d] }
  | _ => none }
def EditStandsWrongFalsely : Prop := editStandsRow.holds Try.pinned (OpenSpec.ofChange editStandsWrong)

/- THE SECOND FORM. 'bulk': how many values and letters a reading holds, each counted each time it is reached (what is shared counts as often as it is met; a slice's spare places count too). A statement '..UptoSaid' is the law's where the arguments, and the package variables that the reading takes, are together of bulk at most 1048576: NARROWER than '..Said'. Prove '..Said' where nothing that the law and all that it calls make is longer than what came in: it says more and counts as full. Else prove '..UptoSaid'. A law counts once. -/
mutual
def uptoBulk {H : Type} : DataW H → Nat
  | .lit (.string bytes) => bytes.length + 1
  | .lit _ => 1
  | .nil => 1
  | .ptr d => uptoBulk d + 1
  | .slice elems spare => uptoBulkAll elems + uptoBulkAll spare + 1
  | .agg parts => uptoBulkAll parts + 1
  | .iface _ d => uptoBulk d + 1
  | .map entries => uptoBulkEntries entries + 1
  | .held _ => 1
def uptoBulkAll {H : Type} : List (DataW H) → Nat
  | [] => 0
  | d :: r => uptoBulk d + uptoBulkAll r
def uptoBulkEntries {H : Type} : List (Lit × DataW H) → Nat
  | [] => 0
  | x :: r => uptoBulkEntry x + uptoBulkEntries r
def uptoBulkEntry {H : Type} : Lit × DataW H → Nat
  | (.string bytes, d) => bytes.length + uptoBulk d + 1
  | (_, d) => uptoBulk d + 1
 end
def uptoSmall : (H : Type) → List (DataW H) → Bool := fun _ ds => decide (uptoBulkAll ds ≤ 1048576)
def OpenSpec.upto (s : _root_.Go.ChangeSpec) : _root_.Go.OpenSpec := { _root_.Go.OpenSpec.ofChange s with cond := some uptoSmall }

/-- 'interleaflaw12.EditOne', WHERE WHAT IT READS IS OF BULK AT MOST 1048576: true; the input reads as it did. -/
def editOneUptoRow : OpenClaim := { program := "ytbokdgcdkmnldaa", sum := "d01cb2723bf51bea0def4bb6828e241c5b09b02d4d0ea37a78eaa473ef507b5a", func := "interleaf/interleaflaw12.EditOne", spec := "editOne", unfollowed := true, recurses := true, apart := false, narrowed := true }
def EditOneUptoSaid : Prop := editOneUptoRow.holds Try.pinned (OpenSpec.upto editOneSpec)

/-- 'interleaflaw12.EditBack', WHERE WHAT IT READS IS OF BULK AT MOST 1048576: true; the input reads as it did. -/
def editBackUptoRow : OpenClaim := { program := "ytbokdgcdkmnldaa", sum := "d01cb2723bf51bea0def4bb6828e241c5b09b02d4d0ea37a78eaa473ef507b5a", func := "interleaf/interleaflaw12.EditBack", spec := "editBack", unfollowed := true, recurses := true, apart := false, narrowed := true }
def EditBackUptoSaid : Prop := editBackUptoRow.holds Try.pinned (OpenSpec.upto editBackSpec)

/-- 'interleaflaw12.EditClasses', WHERE WHAT IT READS IS OF BULK AT MOST 1048576: true; the input reads as it did. -/
def editClassesUptoRow : OpenClaim := { program := "ytbokdgcdkmnldaa", sum := "d01cb2723bf51bea0def4bb6828e241c5b09b02d4d0ea37a78eaa473ef507b5a", func := "interleaf/interleaflaw12.EditClasses", spec := "editClasses", apart := false, narrowed := true }
def EditClassesUptoSaid : Prop := editClassesUptoRow.holds Try.pinned (OpenSpec.upto editClassesSpec)

/-- 'interleaflaw12.EditAll', WHERE WHAT IT READS IS OF BULK AT MOST 1048576: true; the input reads as it did. -/
def editAllUptoRow : OpenClaim := { program := "ytbokdgcdkmnldaa", sum := "d01cb2723bf51bea0def4bb6828e241c5b09b02d4d0ea37a78eaa473ef507b5a", func := "interleaf/interleaflaw12.EditAll", spec := "editAll", unfollowed := true, recurses := true, apart := false, narrowed := true }
def EditAllUptoSaid : Prop := editAllUptoRow.holds Try.pinned (OpenSpec.upto editAllSpec)

/-- 'interleaflaw12.EditStands', WHERE WHAT IT READS IS OF BULK AT MOST 1048576: true; the input reads as it did. -/
def editStandsUptoRow : OpenClaim := { program := "ytbokdgcdkmnldaa", sum := "d01cb2723bf51bea0def4bb6828e241c5b09b02d4d0ea37a78eaa473ef507b5a", func := "interleaf/interleaflaw12.EditStands", spec := "editStands", unfollowed := true, recurses := true, apart := false, narrowed := true }
def EditStandsUptoSaid : Prop := editStandsUptoRow.holds Try.pinned (OpenSpec.upto editStandsSpec)

end Rows
end Go.Proofs.Ytbokdgcdkmnldaa
