/-
  No cell of these rows narrows 'for every input' (looked for: loops, veiled, ifaces, maps, wideKeys, modest, calm, conditions, laid).
  DERIVED. THE GIVEN ROWS OF THIS SEAT. 9 by the template 'for every input the law returns true; each argument reads behind the call as it read before'; 0 by the template 'total and deterministic' (their statements: YtokjlhpkjebnkaaTotals.lean).
  GIVEN WITH THE SEED: the statements are not yours to turn. If you find one false, say at which input.
  Laid BY PROGRAM, IN A SANDBOX (cutbox-rows.mjs): the forced cells as the released guide's own fill.sh prints them over the translation 4e9e5bae5663730f… (all of the seat's roots in one cut). By AI agents, Wed Nov 11 2026. No macro, syntax, notation, axiom, sorry.
-/
import Derived.Test.YtokjlhpkjebnkaaChecked
import GoSem.Claim
import GoSem.ClaimJoined
import GoSem.ClaimMapViews
import Derived.JoinedTies
import Derived.KernelRfl
namespace Go.Proofs.Ytokjlhpkjebnkaa
/- THE CELL 'sum', in the pinned program and in every row, IS THE sha256 OF THE DUMP (.gsa) THAT YtokjlhpkjebnkaaProg.lean LOADS. Nothing in Lean hashes anything: it is a label: what it is worth is what the hold of that sum in a sandbox is worth. -/
noncomputable def Try.pinned : Pinned := { name := "ytokjlhpkjebnkaa", sum := "4e9e5bae5663730fce9cc11bfba7835111cb12b70ff6b4e62f917b36145b875a", checked := Try.checked }
namespace Rows
def none {H : Type} : Left H := { results := [], args := [] }

/-- 'interleaflaw09.ChartPuts': WHATEVER THE INPUT: true; the input reads as it did. -/
def chartPutsSpec : ChangeSpec := { name := "chartPuts", fn := fun _ => fun
  | [d1, d2, d3, d4] => { results := [.lit (.bool true)], args := [d1, d2, d3, d4] }
  | _ => none }
def chartPutsRow : OpenClaim := { program := "ytokjlhpkjebnkaa", sum := "4e9e5bae5663730fce9cc11bfba7835111cb12b70ff6b4e62f917b36145b875a", func := "interleaf/interleaflaw09.ChartPuts", spec := "chartPuts", unfollowed := true, recurses := true, apart := false }
def ChartPutsSaid : Prop := chartPutsRow.holds Try.pinned (OpenSpec.ofChange chartPutsSpec)

/-- ITS FALSE NEIGHBOUR: 'it returns false'. Refute it at one input. -/
def chartPutsWrong : ChangeSpec := { name := "chartPuts", fn := fun _ => fun
  | [d1, d2, d3, d4] => { results := [.lit (.bool false)], args := [d1, d2, d3, d4] }
  | _ => none }
def ChartPutsWrongFalsely : Prop := chartPutsRow.holds Try.pinned (OpenSpec.ofChange chartPutsWrong)

/-- 'interleaflaw09.ChartFields': WHATEVER THE INPUT: true; the input reads as it did. -/
def chartFieldsSpec : ChangeSpec := { name := "chartFields", fn := fun _ => fun
  | [d1, d2, d3] => { results := [.lit (.bool true)], args := [d1, d2, d3] }
  | _ => none }
def chartFieldsRow : OpenClaim := { program := "ytokjlhpkjebnkaa", sum := "4e9e5bae5663730fce9cc11bfba7835111cb12b70ff6b4e62f917b36145b875a", func := "interleaf/interleaflaw09.ChartFields", spec := "chartFields", unfollowed := true, recurses := true, apart := false }
def ChartFieldsSaid : Prop := chartFieldsRow.holds Try.pinned (OpenSpec.ofChange chartFieldsSpec)

/-- ITS FALSE NEIGHBOUR: 'it returns false'. Refute it at one input. -/
def chartFieldsWrong : ChangeSpec := { name := "chartFields", fn := fun _ => fun
  | [d1, d2, d3] => { results := [.lit (.bool false)], args := [d1, d2, d3] }
  | _ => none }
def ChartFieldsWrongFalsely : Prop := chartFieldsRow.holds Try.pinned (OpenSpec.ofChange chartFieldsWrong)

/-- 'interleaflaw09.ChartChildren': WHATEVER THE INPUT: true; the input reads as it did. -/
def chartChildrenSpec : ChangeSpec := { name := "chartChildren", fn := fun _ => fun
  | [d1, d2, d3] => { results := [.lit (.bool true)], args := [d1, d2, d3] }
  | _ => none }
def chartChildrenRow : OpenClaim := { program := "ytokjlhpkjebnkaa", sum := "4e9e5bae5663730fce9cc11bfba7835111cb12b70ff6b4e62f917b36145b875a", func := "interleaf/interleaflaw09.ChartChildren", spec := "chartChildren", unfollowed := true, recurses := true, apart := false }
def ChartChildrenSaid : Prop := chartChildrenRow.holds Try.pinned (OpenSpec.ofChange chartChildrenSpec)

/-- ITS FALSE NEIGHBOUR: 'it returns false'. Refute it at one input. -/
def chartChildrenWrong : ChangeSpec := { name := "chartChildren", fn := fun _ => fun
  | [d1, d2, d3] => { results := [.lit (.bool false)], args := [d1, d2, d3] }
  | _ => none }
def ChartChildrenWrongFalsely : Prop := chartChildrenRow.holds Try.pinned (OpenSpec.ofChange chartChildrenWrong)

/-- 'interleaflaw09.ChartMakes': WHATEVER THE INPUT: true; the input reads as it did. -/
def chartMakesSpec : ChangeSpec := { name := "chartMakes", fn := fun _ => fun
  | [d] => { results := [.lit (.bool true)], args := [d] }
  | _ => none }
def chartMakesRow : OpenClaim := { program := "ytokjlhpkjebnkaa", sum := "4e9e5bae5663730fce9cc11bfba7835111cb12b70ff6b4e62f917b36145b875a", func := "interleaf/interleaflaw09.ChartMakes", spec := "chartMakes", unfollowed := true, recurses := true, apart := false }
def ChartMakesSaid : Prop := chartMakesRow.holds Try.pinned (OpenSpec.ofChange chartMakesSpec)

/-- ITS FALSE NEIGHBOUR: 'it returns false'. Refute it at one input. -/
def chartMakesWrong : ChangeSpec := { name := "chartMakes", fn := fun _ => fun
  | [d] => { results := [.lit (.bool false)], args := [d] }
  | _ => none }
def ChartMakesWrongFalsely : Prop := chartMakesRow.holds Try.pinned (OpenSpec.ofChange chartMakesWrong)

/-- 'interleaflaw10.WireBytes': WHATEVER THE INPUT: true; the input reads as it did. -/
def wireBytesSpec : ChangeSpec := { name := "wireBytes", fn := fun _ => fun
  | [d1, d2, d3] => { results := [.lit (.bool true)], args := [d1, d2, d3] }
  | _ => none }
def wireBytesRow : OpenClaim := { program := "ytokjlhpkjebnkaa", sum := "4e9e5bae5663730fce9cc11bfba7835111cb12b70ff6b4e62f917b36145b875a", func := "interleaf/interleaflaw10.WireBytes", spec := "wireBytes", unfollowed := true, recurses := true, apart := false }
def WireBytesSaid : Prop := wireBytesRow.holds Try.pinned (OpenSpec.ofChange wireBytesSpec)

/-- ITS FALSE NEIGHBOUR: 'it returns false'. Refute it at one input. -/
def wireBytesWrong : ChangeSpec := { name := "wireBytes", fn := fun _ => fun
  | [d1, d2, d3] => { results := [.lit (.bool false)], args := [d1, d2, d3] }
  | _ => none }
def WireBytesWrongFalsely : Prop := wireBytesRow.holds Try.pinned (OpenSpec.ofChange wireBytesWrong)

/-- 'interleaflaw10.WireReads': WHATEVER THE INPUT: true; the input reads as it did. -/
def wireReadsSpec : ChangeSpec := { name := "wireReads", fn := fun _ => fun
  | [d1, d2, d3, d4, d5] => { results := [.lit (.bool true)], args := [d1, d2, d3, d4, d5] }
  | _ => none }
def wireReadsRow : OpenClaim := { program := "ytokjlhpkjebnkaa", sum := "4e9e5bae5663730fce9cc11bfba7835111cb12b70ff6b4e62f917b36145b875a", func := "interleaf/interleaflaw10.WireReads", spec := "wireReads", unfollowed := true, recurses := true, apart := false }
def WireReadsSaid : Prop := wireReadsRow.holds Try.pinned (OpenSpec.ofChange wireReadsSpec)

/-- ITS FALSE NEIGHBOUR: 'it returns false'. Refute it at one input. -/
def wireReadsWrong : ChangeSpec := { name := "wireReads", fn := fun _ => fun
  | [d1, d2, d3, d4, d5] => { results := [.lit (.bool false)], args := [d1, d2, d3, d4, d5] }
  | _ => none }
def WireReadsWrongFalsely : Prop := wireReadsRow.holds Try.pinned (OpenSpec.ofChange wireReadsWrong)

/-- 'interleaflaw10.WireBounds': WHATEVER THE INPUT: true; the input reads as it did. -/
def wireBoundsSpec : ChangeSpec := { name := "wireBounds", fn := fun _ => fun
  | [d1, d2] => { results := [.lit (.bool true)], args := [d1, d2] }
  | _ => none }
def wireBoundsRow : OpenClaim := { program := "ytokjlhpkjebnkaa", sum := "4e9e5bae5663730fce9cc11bfba7835111cb12b70ff6b4e62f917b36145b875a", func := "interleaf/interleaflaw10.WireBounds", spec := "wireBounds", unfollowed := true, recurses := true, apart := false }
def WireBoundsSaid : Prop := wireBoundsRow.holds Try.pinned (OpenSpec.ofChange wireBoundsSpec)

/-- ITS FALSE NEIGHBOUR: 'it returns false'. Refute it at one input. -/
def wireBoundsWrong : ChangeSpec := { name := "wireBounds", fn := fun _ => fun
  | [d1, d2] => { results := [.lit (.bool false)], args := [d1, d2] }
  | _ => none }
def WireBoundsWrongFalsely : Prop := wireBoundsRow.holds Try.pinned (OpenSpec.ofChange wireBoundsWrong)

/-- 'interleaflaw10.WireApart': WHATEVER THE INPUT: true; the input reads as it did. -/
def wireApartSpec : ChangeSpec := { name := "wireApart", fn := fun _ => fun
  | [d1, d2, d3] => { results := [.lit (.bool true)], args := [d1, d2, d3] }
  | _ => none }
def wireApartRow : OpenClaim := { program := "ytokjlhpkjebnkaa", sum := "4e9e5bae5663730fce9cc11bfba7835111cb12b70ff6b4e62f917b36145b875a", func := "interleaf/interleaflaw10.WireApart", spec := "wireApart", unfollowed := true, recurses := true, apart := false }
def WireApartSaid : Prop := wireApartRow.holds Try.pinned (OpenSpec.ofChange wireApartSpec)

/-- ITS FALSE NEIGHBOUR: 'it returns false'. Refute it at one input. -/
def wireApartWrong : ChangeSpec := { name := "wireApart", fn := fun _ => fun
  | [d1, d2, d3] => { results := [.lit (.bool false)], args := [d1, d2, d3] }
  | _ => none }
def WireApartWrongFalsely : Prop := wireApartRow.holds Try.pinned (OpenSpec.ofChange wireApartWrong)

/-- 'interleaflaw10.WireOne': WHATEVER THE INPUT: true; the input reads as it did. -/
def wireOneSpec : ChangeSpec := { name := "wireOne", fn := fun _ => fun
  | [d1, d2] => { results := [.lit (.bool true)], args := [d1, d2] }
  | _ => none }
def wireOneRow : OpenClaim := { program := "ytokjlhpkjebnkaa", sum := "4e9e5bae5663730fce9cc11bfba7835111cb12b70ff6b4e62f917b36145b875a", func := "interleaf/interleaflaw10.WireOne", spec := "wireOne", unfollowed := true, recurses := true, apart := false }
def WireOneSaid : Prop := wireOneRow.holds Try.pinned (OpenSpec.ofChange wireOneSpec)

/-- ITS FALSE NEIGHBOUR: 'it returns false'. Refute it at one input. -/
def wireOneWrong : ChangeSpec := { name := "wireOne", fn := fun _ => fun
  | [d1, d2] => { results := [.lit (.bool false)], args := [d1, d2] }
  | _ => none }
def WireOneWrongFalsely : Prop := wireOneRow.holds Try.pinned (OpenSpec.ofChange wireOneWrong)

/- THE SECOND FORM. 'bulk': how many values and letters a reading holds, each counted each time it is reached (what is shared counts as often as it is met; a slice's spare places count too). A statement '..UptoSaid' is the law's where the arguments, and the package variables that the reading takes, are together of bulk at most 1048576: NARROWER than '..Said'. Prove '..Said' where nothing that the law and all that it calls make is longer than what came in: it says more and counts as full. Else prove '..UptoSaid'. A law counts once. -/
mutual
def uptoBulk {H : Type} : DataW H → Nat
  | .lit (.string bytes) => bytes.length + 1
  | .lit _ => 1
  | .nil => 1
  | .ptr d => uptoBulk d + 1
  | .slice elems spare => uptoBulkAll elems + uptoBulkAll spare + 1
  | .agg parts => uptoBulkAll parts + 1
  | .iface _ d => uptoBulk d + 1
  | .map entries => uptoBulkEntries entries + 1
  | .held _ => 1
def uptoBulkAll {H : Type} : List (DataW H) → Nat
  | [] => 0
  | d :: r => uptoBulk d + uptoBulkAll r
def uptoBulkEntries {H : Type} : List (Lit × DataW H) → Nat
  | [] => 0
  | x :: r => uptoBulkEntry x + uptoBulkEntries r
def uptoBulkEntry {H : Type} : Lit × DataW H → Nat
  | (.string bytes, d) => bytes.length + uptoBulk d + 1
  | (_, d) => uptoBulk d + 1
 end
def uptoSmall : (H : Type) → List (DataW H) → Bool := fun _ ds => decide (uptoBulkAll ds ≤ 1048576)
def OpenSpec.upto (s : _root_.Go.ChangeSpec) : _root_.Go.OpenSpec := { _root_.Go.OpenSpec.ofChange s with cond := some uptoSmall }

/-- 'interleaflaw09.ChartPuts', WHERE WHAT IT READS IS OF BULK AT MOST 1048576: true; the input reads as it did. -/
def chartPutsUptoRow : OpenClaim := { program := "ytokjlhpkjebnkaa", sum := "4e9e5bae5663730fce9cc11bfba7835111cb12b70ff6b4e62f917b36145b875a", func := "interleaf/interleaflaw09.ChartPuts", spec := "chartPuts", unfollowed := true, recurses := true, apart := false, narrowed := true }
def ChartPutsUptoSaid : Prop := chartPutsUptoRow.holds Try.pinned (OpenSpec.upto chartPutsSpec)

/-- 'interleaflaw09.ChartFields', WHERE WHAT IT READS IS OF BULK AT MOST 1048576: true; the input reads as it did. -/
def chartFieldsUptoRow : OpenClaim := { program := "ytokjlhpkjebnkaa", sum := "4e9e5bae5663730fce9cc11bfba7835111cb12b70ff6b4e62f917b36145b875a", func := "interleaf/interleaflaw09.ChartFields", spec := "chartFields", unfollowed := true, recurses := true, apart := false, narrowed := true }
def ChartFieldsUptoSaid : Prop := chartFieldsUptoRow.holds Try.pinned (OpenSpec.upto chartFieldsSpec)

/-- 'interleaflaw09.ChartChildren', WHERE WHAT IT READS IS OF BULK AT MOST 1048576: true; the input reads as it did. -/
def chartChildrenUptoRow : OpenClaim := { program := "ytokjlhpkjebnkaa", sum := "4e9e5bae5663730fce9cc11bfba7835111cb12b70ff6b4e62f917b36145b875a", func := "interleaf/interleaflaw09.ChartChildren", spec := "chartChildren", unfollowed := true, recurses := true, apart := false, narrowed := true }
def ChartChildrenUptoSaid : Prop := chartChildrenUptoRow.holds Try.pinned (OpenSpec.upto chartChildrenSpec)

/-- 'interleaflaw09.ChartMakes', WHERE WHAT IT READS IS OF BULK AT MOST 1048576: true; the input reads as it did. -/
def chartMakesUptoRow : OpenClaim := { program := "ytokjlhpkjebnkaa", sum := "4e9e5bae5663730fce9cc11bfba7835111cb12b70ff6b4e62f917b36145b875a", func := "interleaf/interleaflaw09.ChartMakes", spec := "chartMakes", unfollowed := true, recurses := true, apart := false, narrowed := true }
def ChartMakesUptoSaid : Prop := chartMakesUptoRow.holds Try.pinned (OpenSpec.upto chartMakesSpec)

/-- 'interleaflaw10.WireBytes', WHERE WHAT IT READS IS OF BULK AT MOST 1048576: true; the input reads as it did. -/
def wireBytesUptoRow : OpenClaim := { program := "ytokjlhpkjebnkaa", sum := "4e9e5bae5663730fce9cc11bfba7835111cb12b70ff6b4e62f917b36145b875a", func := "interleaf/interleaflaw10.WireBytes", spec := "wireBytes", unfollowed := true, recurses := true, apart := false, narrowed := true }
def WireBytesUptoSaid : Prop := wireBytesUptoRow.holds Try.pinned (OpenSpec.upto wireBytesSpec)

/-- 'interleaflaw10.WireReads', WHERE WHAT IT READS IS OF BULK AT MOST 1048576: true; the input reads as it did. -/
def wireReadsUptoRow : OpenClaim := { program := "ytokjlhpkjebnkaa", sum := "4e9e5bae5663730fce9cc11bfba7835111cb12b70ff6b4e62f917b36145b875a", func := "interleaf/interleaflaw10.WireReads", spec := "wireReads", unfollowed := true, recurses := true, apart := false, narrowed := true }
def WireReadsUptoSaid : Prop := wireReadsUptoRow.holds Try.pinned (OpenSpec.upto wireReadsSpec)

/-- 'interleaflaw10.WireBounds', WHERE WHAT IT READS IS OF BULK AT MOST 1048576: true; the input reads as it did. -/
def wireBoundsUptoRow : OpenClaim := { program := "ytokjlhpkjebnkaa", sum := "4e9e5bae5663730fce9cc11bfba7835111cb12b70ff6b4e62f917b36145b875a", func := "interleaf/interleaflaw10.WireBounds", spec := "wireBounds", unfollowed := true, recurses := true, apart := false, narrowed := true }
def WireBoundsUptoSaid : Prop := wireBoundsUptoRow.holds Try.pinned (OpenSpec.upto wireBoundsSpec)

/-- 'interleaflaw10.WireApart', WHERE WHAT IT READS IS OF BULK AT MOST 1048576: true; the input reads as it did. -/
def wireApartUptoRow : OpenClaim := { program := "ytokjlhpkjebnkaa", sum := "4e9e5bae5663730fce9cc11bfba7835111cb12b70ff6b4e62f917b36145b875a", func := "interleaf/interleaflaw10.WireApart", spec := "wireApart", unfollowed := true, recurses := true, apart := false, narrowed := true }
def WireApartUptoSaid : Prop := wireApartUptoRow.holds Try.pinned (OpenSpec.upto wireApartSpec)

/-- 'interleaflaw10.WireOne', WHERE WHAT IT READS IS OF BULK AT MOST 1048576: true; the input reads as it did. -/
def wireOneUptoRow : OpenClaim := { program := "ytokjlhpkjebnkaa", sum := "4e9e5bae5663730fce9cc11bfba7835111cb12b70ff6b4e62f917b36145b875a", func := "interleaf/interleaflaw10.WireOne", spec := "wireOne", unfollowed := true, recurses := true, apart := false, narrowed := true }
def WireOneUptoSaid : Prop := wireOneUptoRow.holds Try.pinned (OpenSpec.upto wireOneSpec)

end Rows
end Go.Proofs.Ytokjlhpkjebnkaa
