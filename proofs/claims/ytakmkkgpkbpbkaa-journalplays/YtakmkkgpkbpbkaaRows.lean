/-
  No cell of these rows narrows 'for every input' (looked for: loops, veiled, ifaces, maps, wideKeys, modest, calm, conditions, laid).
  DERIVED. THE GIVEN ROWS OF THIS SEAT. 5 by the template 'for every input the law returns true; each argument reads behind the call as it read before'; 0 by the template 'total and deterministic' (their statements: YtakmkkgpkbpbkaaTotals.lean).
  GIVEN WITH THE SEED: the statements are not yours to turn. If you find one false, say at which input.
  Laid BY PROGRAM, IN A SANDBOX (cutbox-rows.mjs): the forced cells as the released guide's own fill.sh prints them over the translation 7668b24a74950b3c… (all of the seat's roots in one cut). By AI agents, Wed Nov 11 2026. No macro, syntax, notation, axiom, sorry.
-/
import Derived.Test.YtakmkkgpkbpbkaaChecked
import GoSem.Claim
import GoSem.ClaimJoined
import GoSem.ClaimMapViews
import Derived.JoinedTies
import Derived.KernelRfl
namespace Go.Proofs.Ytakmkkgpkbpbkaa
/- THE CELL 'sum', in the pinned program and in every row, IS THE sha256 OF THE DUMP (.gsa) THAT YtakmkkgpkbpbkaaProg.lean LOADS. Nothing in Lean hashes anything: it is a label: what it is worth is what the hold of that sum in a sandbox is worth. -/
noncomputable def Try.pinned : Pinned := { name := "ytakmkkgpkbpbkaa", sum := "7668b24a74950b3c1f5c4331208003a0fc802517679a5f1c1c171039048504de", checked := Try.checked }
namespace Rows
def none {H : Type} : Left H := { results := [], args := [] }

/-- 'interleaflaw05.JournalPlays': WHATEVER THE INPUT: true; the input reads as it did. -/
def journalPlaysSpec : ChangeSpec := { name := "journalPlays", fn := fun _ => fun
  | [d1, d2] => { results := [.lit (.bool true)], args := [d1, d2] }
  | _ => none }
def journalPlaysRow : OpenClaim := { program := "ytakmkkgpkbpbkaa", sum := "7668b24a74950b3c1f5c4331208003a0fc802517679a5f1c1c171039048504de", func := "interleaf/interleaflaw05.JournalPlays", spec := "journalPlays", unfollowed := true, recurses := true, apart := false }
def JournalPlaysSaid : Prop := journalPlaysRow.holds Try.pinned (OpenSpec.ofChange journalPlaysSpec)

/-- ITS FALSE NEIGHBOUR: 'it returns false'. Refute it at one input. -/
def journalPlaysWrong : ChangeSpec := { name := "journalPlays", fn := fun _ => fun
  | [d1, d2] => { results := [.lit (.bool false)], args := [d1, d2] }
  | _ => none }
def JournalPlaysWrongFalsely : Prop := journalPlaysRow.holds Try.pinned (OpenSpec.ofChange journalPlaysWrong)

/-- 'interleaflaw05.JournalErrs': WHATEVER THE INPUT: true; the input reads as it did. -/
def journalErrsSpec : ChangeSpec := { name := "journalErrs", fn := fun _ => fun
  | [d1, d2, d3, d4] => { results := [.lit (.bool true)], args := [d1, d2, d3, d4] }
  | _ => none }
def journalErrsRow : OpenClaim := { program := "ytakmkkgpkbpbkaa", sum := "7668b24a74950b3c1f5c4331208003a0fc802517679a5f1c1c171039048504de", func := "interleaf/interleaflaw05.JournalErrs", spec := "journalErrs", unfollowed := true, recurses := true, apart := false }
def JournalErrsSaid : Prop := journalErrsRow.holds Try.pinned (OpenSpec.ofChange journalErrsSpec)

/-- ITS FALSE NEIGHBOUR: 'it returns false'. Refute it at one input. -/
def journalErrsWrong : ChangeSpec := { name := "journalErrs", fn := fun _ => fun
  | [d1, d2, d3, d4] => { results := [.lit (.bool false)], args := [d1, d2, d3, d4] }
  | _ => none }
def JournalErrsWrongFalsely : Prop := journalErrsRow.holds Try.pinned (OpenSpec.ofChange journalErrsWrong)

/-- 'interleaflaw05.JournalStops': WHATEVER THE INPUT: true; the input reads as it did. -/
def journalStopsSpec : ChangeSpec := { name := "journalStops", fn := fun _ => fun
  | [d1, d2, d3] => { results := [.lit (.bool true)], args := [d1, d2, d3] }
  | _ => none }
def journalStopsRow : OpenClaim := { program := "ytakmkkgpkbpbkaa", sum := "7668b24a74950b3c1f5c4331208003a0fc802517679a5f1c1c171039048504de", func := "interleaf/interleaflaw05.JournalStops", spec := "journalStops", unfollowed := true, recurses := true, apart := false }
def JournalStopsSaid : Prop := journalStopsRow.holds Try.pinned (OpenSpec.ofChange journalStopsSpec)

/-- ITS FALSE NEIGHBOUR: 'it returns false'. Refute it at one input. -/
def journalStopsWrong : ChangeSpec := { name := "journalStops", fn := fun _ => fun
  | [d1, d2, d3] => { results := [.lit (.bool false)], args := [d1, d2, d3] }
  | _ => none }
def JournalStopsWrongFalsely : Prop := journalStopsRow.holds Try.pinned (OpenSpec.ofChange journalStopsWrong)

/-- 'interleaflaw05.JournalMany': WHATEVER THE INPUT: true; the input reads as it did. -/
def journalManySpec : ChangeSpec := { name := "journalMany", fn := fun _ => fun
  | [d1, d2] => { results := [.lit (.bool true)], args := [d1, d2] }
  | _ => none }
def journalManyRow : OpenClaim := { program := "ytakmkkgpkbpbkaa", sum := "7668b24a74950b3c1f5c4331208003a0fc802517679a5f1c1c171039048504de", func := "interleaf/interleaflaw05.JournalMany", spec := "journalMany", unfollowed := true, recurses := true, apart := false }
def JournalManySaid : Prop := journalManyRow.holds Try.pinned (OpenSpec.ofChange journalManySpec)

/-- ITS FALSE NEIGHBOUR: 'it returns false'. Refute it at one input. -/
def journalManyWrong : ChangeSpec := { name := "journalMany", fn := fun _ => fun
  | [d1, d2] => { results := [.lit (.bool false)], args := [d1, d2] }
  | _ => none }
def JournalManyWrongFalsely : Prop := journalManyRow.holds Try.pinned (OpenSpec.ofChange journalManyWrong)

/-- 'interleaflaw05.JournalTwice': WHATEVER THE INPUT: true; the input reads as it did. -/
def journalTwiceSpec : ChangeSpec := { name := "journalTwice", fn := fun _ => fun
  | [d1, d2, d3] => { results := [.lit (.bool true)], args := [d1, d2, d3] }
  | _ => none }
def journalTwiceRow : OpenClaim := { program := "ytakmkkgpkbpbkaa", sum := "7668b24a74950b3c1f5c4331208003a0fc802517679a5f1c1c171039048504de", func := "interleaf/interleaflaw05.JournalTwice", spec := "journalTwice", unfollowed := true, recurses := true, apart := false }
def JournalTwiceSaid : Prop := journalTwiceRow.holds Try.pinned (OpenSpec.ofChange journalTwiceSpec)

/-- ITS FALSE NEIGHBOUR: 'it returns false'. Refute it at one input. -/
def journalTwiceWrong : ChangeSpec := { name := "journalTwice", fn := fun _ => fun
  | [d1, d2, d3] => { results := [.lit (.bool false)], args := [d1, d2, d3] }
  | _ => none }
def JournalTwiceWrongFalsely : Prop := journalTwiceRow.holds Try.pinned (OpenSpec.ofChange journalTwiceWrong)

/- THE SECOND FORM. 'bulk': how many values and letters a reading holds, each counted each time it is reached (what is shared counts as often as it is met; a slice's spare places count too). A statement '..UptoSaid' is the law's where the arguments, and the package variables that the reading takes, are together of bulk at most 1048576: NARROWER than '..Said'. Prove '..Said' where nothing that the law and all that it calls make is longer than what came in: it says more and counts as full. Else prove '..UptoSaid'. A law counts once. -/
mutual
def uptoBulk {H : Type} : DataW H → Nat
  | .lit (.string bytes) => bytes.length + 1
  | .lit _ => 1
  | .nil => 1
  | .ptr d => uptoBulk d + 1
  | .slice elems spare => uptoBulkAll elems + uptoBulkAll spare + 1
  | .agg parts => uptoBulkAll parts + 1
  | .iface _ d => uptoBulk d + 1
  | .map entries => uptoBulkEntries entries + 1
  | .held _ => 1
def uptoBulkAll {H : Type} : List (DataW H) → Nat
  | [] => 0
  | d :: r => uptoBulk d + uptoBulkAll r
def uptoBulkEntries {H : Type} : List (Lit × DataW H) → Nat
  | [] => 0
  | x :: r => uptoBulkEntry x + uptoBulkEntries r
def uptoBulkEntry {H : Type} : Lit × DataW H → Nat
  | (.string bytes, d) => bytes.length + uptoBulk d + 1
  | (_, d) => uptoBulk d + 1
 end
def uptoSmall : (H : Type) → List (DataW H) → Bool := fun _ ds => decide (uptoBulkAll ds ≤ 1048576)
def OpenSpec.upto (s : _root_.Go.ChangeSpec) : _root_.Go.OpenSpec := { _root_.Go.OpenSpec.ofChange s with cond := some uptoSmall }

/-- 'interleaflaw05.JournalPlays', WHERE WHAT IT READS IS OF BULK AT MOST 1048576: true; the input reads as it did. -/
def journalPlaysUptoRow : OpenClaim := { program := "ytakmkkgpkbpbkaa", sum := "7668b24a74950b3c1f5c4331208003a0fc802517679a5f1c1c171039048504de", func := "interleaf/interleaflaw05.JournalPlays", spec := "journalPlays", unfollowed := true, recurses := true, apart := false, narrowed := true }
def JournalPlaysUptoSaid : Prop := journalPlaysUptoRow.holds Try.pinned (OpenSpec.upto journalPlaysSpec)

/-- 'interleaflaw05.JournalErrs', WHERE WHAT IT READS IS OF BULK AT MOST 1048576: true; the input reads as it did. -/
def journalErrsUptoRow : OpenClaim := { program := "ytakmkkgpkbpbkaa", sum := "7668b24a74950b3c1f5c4331208003a0fc802517679a5f1c1c171039048504de", func := "interleaf/interleaflaw05.JournalErrs", spec := "journalErrs", unfollowed := true, recurses := true, apart := false, narrowed := true }
def JournalErrsUptoSaid : Prop := journalErrsUptoRow.holds Try.pinned (OpenSpec.upto journalErrsSpec)

/-- 'interleaflaw05.JournalStops', WHERE WHAT IT READS IS OF BULK AT MOST 1048576: true; the input reads as it did. -/
def journalStopsUptoRow : OpenClaim := { program := "ytakmkkgpkbpbkaa", sum := "7668b24a74950b3c1f5c4331208003a0fc802517679a5f1c1c171039048504de", func := "interleaf/interleaflaw05.JournalStops", spec := "journalStops", unfollowed := true, recurses := true, apart := false, narrowed := true }
def JournalStopsUptoSaid : Prop := journalStopsUptoRow.holds Try.pinned (OpenSpec.upto journalStopsSpec)

/-- 'interleaflaw05.JournalMany', WHERE WHAT IT READS IS OF BULK AT MOST 1048576: true; the input reads as it did. -/
def journalManyUptoRow : OpenClaim := { program := "ytakmkkgpkbpbkaa", sum := "7668b24a74950b3c1f5c4331208003a0fc802517679a5f1c1c171039048504de", func := "interleaf/interleaflaw05.JournalMany", spec := "journalMany", unfollowed := true, recurses := true, apart := false, narrowed := true }
def JournalManyUptoSaid : Prop := journalManyUptoRow.holds Try.pinned (OpenSpec.upto journalManySpec)

/-- 'interleaflaw05.JournalTwice', WHERE WHAT IT READS IS OF BULK AT MOST 1048576: true; the input reads as it did. -/
def journalTwiceUptoRow : OpenClaim := { program := "ytakmkkgpkbpbkaa", sum := "7668b24a74950b3c1f5c4331208003a0fc802517679a5f1c1c171039048504de", func := "interleaf/interleaflaw05.JournalTwice", spec := "journalTwice", unfollowed := true, recurses := true, apart := false, narrowed := true }
def JournalTwiceUptoSaid : Prop := journalTwiceUptoRow.holds Try.pinned (OpenSpec.upto journalTwiceSpec)

end Rows
end Go.Proofs.Ytakmkkgpkbpbkaa
