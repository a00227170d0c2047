/-
  No cell of these rows narrows 'for every input' (looked for: loops, veiled, ifaces, maps, wideKeys, modest, calm, conditions, laid).
  DERIVED. THE GIVEN ROWS OF THIS SEAT. 5 by the template 'for every input the law returns true; each argument reads behind the call as it read before'; 0 by the template 'total and deterministic' (their statements: YtkciaafkhpjnaaaTotals.lean).
  GIVEN WITH THE SEED: the statements are not yours to turn. If you find one false, say at which input.
  Laid BY PROGRAM, IN A SANDBOX (cutbox-rows.mjs): the forced cells as the released guide's own fill.sh prints them over the translation 3471a007d95a3708… (all of the seat's roots in one cut). By AI agents, Wed Nov 11 2026. No macro, syntax, notation, axiom, sorry.
-/
import Derived.Test.YtkciaafkhpjnaaaChecked
import GoSem.Claim
import GoSem.ClaimJoined
import GoSem.ClaimMapViews
import Derived.JoinedTies
import Derived.KernelRfl
namespace Go.Proofs.Ytkciaafkhpjnaaa
/- THE CELL 'sum', in the pinned program and in every row, IS THE sha256 OF THE DUMP (.gsa) THAT YtkciaafkhpjnaaaProg.lean LOADS. Nothing in Lean hashes anything: it is a label: what it is worth is what the hold of that sum in a sandbox is worth. -/
noncomputable def Try.pinned : Pinned := { name := "ytkciaafkhpjnaaa", sum := "3471a007d95a3708abf93b13beca84bc4848d87aa9af70ef46b09865a9453608", checked := Try.checked }
namespace Rows
def none {H : Type} : Left H := { results := [], args := [] }

/-- 'interleaflaw13.DiffLeads': WHATEVER THE INPUT: true; the input reads as it did. -/
def diffLeadsSpec : ChangeSpec := { name := "diffLeads", fn := fun _ => fun
  | [d1, d2, d3] => { results := [.lit (.bool true)], args := [d1, d2, d3] }
  | _ => none }
def diffLeadsRow : OpenClaim := { program := "ytkciaafkhpjnaaa", sum := "3471a007d95a3708abf93b13beca84bc4848d87aa9af70ef46b09865a9453608", func := "interleaf/interleaflaw13.DiffLeads", spec := "diffLeads", unfollowed := true, recurses := true, apart := false }
def DiffLeadsSaid : Prop := diffLeadsRow.holds Try.pinned (OpenSpec.ofChange diffLeadsSpec)

/-- ITS FALSE NEIGHBOUR: 'it returns false'. Refute it at one input. -/
def diffLeadsWrong : ChangeSpec := { name := "diffLeads", fn := fun _ => fun
  | [d1, d2, d3] => { results := [.lit (.bool false)], args := [d1, d2, d3] }
  | _ => none }
def DiffLeadsWrongFalsely : Prop := diffLeadsRow.holds Try.pinned (OpenSpec.ofChange diffLeadsWrong)

/-- 'interleaflaw13.DiffOf': WHATEVER THE INPUT: true; the input reads as it did. -/
def diffOfSpec : ChangeSpec := { name := "diffOf", fn := fun _ => fun
  | [d1, d2, d3, d4] => { results := [.lit (.bool true)], args := [d1, d2, d3, d4] }
  | _ => none }
def diffOfRow : OpenClaim := { program := "ytkciaafkhpjnaaa", sum := "3471a007d95a3708abf93b13beca84bc4848d87aa9af70ef46b09865a9453608", func := "interleaf/interleaflaw13.DiffOf", spec := "diffOf", unfollowed := true, recurses := true, apart := false }
def DiffOfSaid : Prop := diffOfRow.holds Try.pinned (OpenSpec.ofChange diffOfSpec)

/-- ITS FALSE NEIGHBOUR: 'it returns false'. Refute it at one input. -/
def diffOfWrong : ChangeSpec := { name := "diffOf", fn := fun _ => fun
  | [d1, d2, d3, d4] => { results := [.lit (.bool false)], args := [d1, d2, d3, d4] }
  | _ => none }
def DiffOfWrongFalsely : Prop := diffOfRow.holds Try.pinned (OpenSpec.ofChange diffOfWrong)

/-- 'interleaflaw13.DiffTouches': WHATEVER THE INPUT: true; the input reads as it did. -/
def diffTouchesSpec : ChangeSpec := { name := "diffTouches", fn := fun _ => fun
  | [d1, d2] => { results := [.lit (.bool true)], args := [d1, d2] }
  | _ => none }
def diffTouchesRow : OpenClaim := { program := "ytkciaafkhpjnaaa", sum := "3471a007d95a3708abf93b13beca84bc4848d87aa9af70ef46b09865a9453608", func := "interleaf/interleaflaw13.DiffTouches", spec := "diffTouches", unfollowed := true, recurses := true, apart := false }
def DiffTouchesSaid : Prop := diffTouchesRow.holds Try.pinned (OpenSpec.ofChange diffTouchesSpec)

/-- ITS FALSE NEIGHBOUR: 'it returns false'. Refute it at one input. -/
def diffTouchesWrong : ChangeSpec := { name := "diffTouches", fn := fun _ => fun
  | [d1, d2] => { results := [.lit (.bool false)], args := [d1, d2] }
  | _ => none }
def DiffTouchesWrongFalsely : Prop := diffTouchesRow.holds Try.pinned (OpenSpec.ofChange diffTouchesWrong)

/-- 'interleaflaw13.DiffTurned': WHATEVER THE INPUT: true; the input reads as it did. -/
def diffTurnedSpec : ChangeSpec := { name := "diffTurned", fn := fun _ => fun
  | [d1, d2] => { results := [.lit (.bool true)], args := [d1, d2] }
  | _ => none }
def diffTurnedRow : OpenClaim := { program := "ytkciaafkhpjnaaa", sum := "3471a007d95a3708abf93b13beca84bc4848d87aa9af70ef46b09865a9453608", func := "interleaf/interleaflaw13.DiffTurned", spec := "diffTurned", unfollowed := true, recurses := true, apart := false }
def DiffTurnedSaid : Prop := diffTurnedRow.holds Try.pinned (OpenSpec.ofChange diffTurnedSpec)

/-- ITS FALSE NEIGHBOUR: 'it returns false'. Refute it at one input. -/
def diffTurnedWrong : ChangeSpec := { name := "diffTurned", fn := fun _ => fun
  | [d1, d2] => { results := [.lit (.bool false)], args := [d1, d2] }
  | _ => none }
def DiffTurnedWrongFalsely : Prop := diffTurnedRow.holds Try.pinned (OpenSpec.ofChange diffTurnedWrong)

/-- 'interleaflaw13.DiffCounts': WHATEVER THE INPUT: true; the input reads as it did. -/
def diffCountsSpec : ChangeSpec := { name := "diffCounts", fn := fun _ => fun
  | [d1, d2] => { results := [.lit (.bool true)], args := [d1, d2] }
  | _ => none }
def diffCountsRow : OpenClaim := { program := "ytkciaafkhpjnaaa", sum := "3471a007d95a3708abf93b13beca84bc4848d87aa9af70ef46b09865a9453608", func := "interleaf/interleaflaw13.DiffCounts", spec := "diffCounts", unfollowed := true, recurses := true, apart := false }
def DiffCountsSaid : Prop := diffCountsRow.holds Try.pinned (OpenSpec.ofChange diffCountsSpec)

/-- ITS FALSE NEIGHBOUR: 'it returns false'. Refute it at one input. -/
def diffCountsWrong : ChangeSpec := { name := "diffCounts", fn := fun _ => fun
  | [d1, d2] => { results := [.lit (.bool false)], args := [d1, d2] }
  | _ => none }
def DiffCountsWrongFalsely : Prop := diffCountsRow.holds Try.pinned (OpenSpec.ofChange diffCountsWrong)

/- THE SECOND FORM. 'bulk': how many values and letters a reading holds, each counted each time it is reached (what is shared counts as often as it is met; a slice's spare places count too). A statement '..UptoSaid' is the law's where the arguments, and the package variables that the reading takes, are together of bulk at most 1048576: NARROWER than '..Said'. Prove '..Said' where nothing that the law and all that it calls make is longer than what came in: it says more and counts as full. Else prove '..UptoSaid'. A law counts once. -/
mutual
def uptoBulk {H : Type} : DataW H → Nat
  | .lit (.string bytes) => bytes.length + 1
  | .lit _ => 1
  | .nil => 1
  | .ptr d => uptoBulk d + 1
  | .slice elems spare => uptoBulkAll elems + uptoBulkAll spare + 1
  | .agg parts => uptoBulkAll parts + 1
  | .iface _ d => uptoBulk d + 1
  | .map entries => uptoBulkEntries entries + 1
  | .held _ => 1
def uptoBulkAll {H : Type} : List (DataW H) → Nat
  | [] => 0
  | d :: r => uptoBulk d + uptoBulkAll r
def uptoBulkEntries {H : Type} : List (Lit × DataW H) → Nat
  | [] => 0
  | x :: r => uptoBulkEntry x + uptoBulkEntries r
def uptoBulkEntry {H : Type} : Lit × DataW H → Nat
  | (.string bytes, d) => bytes.length + uptoBulk d + 1
  | (_, d) => uptoBulk d + 1
 end
def uptoSmall : (H : Type) → List (DataW H) → Bool := fun _ ds => decide (uptoBulkAll ds ≤ 1048576)
def OpenSpec.upto (s : _root_.Go.ChangeSpec) : _root_.Go.OpenSpec := { _root_.Go.OpenSpec.ofChange s with cond := some uptoSmall }

/-- 'interleaflaw13.DiffLeads', WHERE WHAT IT READS IS OF BULK AT MOST 1048576: true; the input reads as it did. -/
def diffLeadsUptoRow : OpenClaim := { program := "ytkciaafkhpjnaaa", sum := "3471a007d95a3708abf93b13beca84bc4848d87aa9af70ef46b09865a9453608", func := "interleaf/interleaflaw13.DiffLeads", spec := "diffLeads", unfollowed := true, recurses := true, apart := false, narrowed := true }
def DiffLeadsUptoSaid : Prop := diffLeadsUptoRow.holds Try.pinned (OpenSpec.upto diffLeadsSpec)

/-- 'interleaflaw13.DiffOf', WHERE WHAT IT READS IS OF BULK AT MOST 1048576: true; the input reads as it did. -/
def diffOfUptoRow : OpenClaim := { program := "ytkciaafkhpjnaaa", sum := "3471a007d95a3708abf93b13beca84bc4848d87aa9af70ef46b09865a9453608", func := "interleaf/interleaflaw13.DiffOf", spec := "diffOf", unfollowed := true, recurses := true, apart := false, narrowed := true }
def DiffOfUptoSaid : Prop := diffOfUptoRow.holds Try.pinned (OpenSpec.upto diffOfSpec)

/-- 'interleaflaw13.DiffTouches', WHERE WHAT IT READS IS OF BULK AT MOST 1048576: true; the input reads as it did. -/
def diffTouchesUptoRow : OpenClaim := { program := "ytkciaafkhpjnaaa", sum := "3471a007d95a3708abf93b13beca84bc4848d87aa9af70ef46b09865a9453608", func := "interleaf/interleaflaw13.DiffTouches", spec := "diffTouches", unfollowed := true, recurses := true, apart := false, narrowed := true }
def DiffTouchesUptoSaid : Prop := diffTouchesUptoRow.holds Try.pinned (OpenSpec.upto diffTouchesSpec)

/-- 'interleaflaw13.DiffTurned', WHERE WHAT IT READS IS OF BULK AT MOST 1048576: true; the input reads as it did. -/
def diffTurnedUptoRow : OpenClaim := { program := "ytkciaafkhpjnaaa", sum := "3471a007d95a3708abf93b13beca84bc4848d87aa9af70ef46b09865a9453608", func := "interleaf/interleaflaw13.DiffTurned", spec := "diffTurned", unfollowed := true, recurses := true, apart := false, narrowed := true }
def DiffTurnedUptoSaid : Prop := diffTurnedUptoRow.holds Try.pinned (OpenSpec.upto diffTurnedSpec)

/-- 'interleaflaw13.DiffCounts', WHERE WHAT IT READS IS OF BULK AT MOST 1048576: true; the input reads as it did. -/
def diffCountsUptoRow : OpenClaim := { program := "ytkciaafkhpjnaaa", sum := "3471a007d95a3708abf93b13beca84bc4848d87aa9af70ef46b09865a9453608", func := "interleaf/interleaflaw13.DiffCounts", spec := "diffCounts", unfollowed := true, recurses := true, apart := false, narrowed := true }
def DiffCountsUptoSaid : Prop := diffCountsUptoRow.holds Try.pinned (OpenSpec.upto diffCountsSpec)

end Rows
end Go.Proofs.Ytkciaafkhpjnaaa
