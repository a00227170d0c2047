/- Own texts, packed: Pen. No statement is proved here. -/
import Derived.Test.YtkciaafkhpjnaaaRows
import Derived.Test.YtkciaafkhpjnaaaQ00
import Derived.Lib.Hide
namespace Go.Proofs.Ytkciaafkhpjnaaa
open Go.RowKit

/-- A pen at block B holds the value v, whose own cells are the bytes xs. -/
structure PenIs (w : World) (base B : Nat) (v : Value) (xs : List Int) : Prop where
  cell : w.cell? ⟨B, 0, none⟩ = some v
  open_ : w.frozen? ⟨B, 0, none⟩ = false
  own : w.ownsRow base 5 1 v xs.length (xs.map (Value.int .u8))
  apart : v.ownBlock ≠ some B
  lt : B < w.heap.size

end Go.Proofs.Ytkciaafkhpjnaaa
