/- Own contracts: charts put together. No statement is proved here. -/
import Derived.Test.YtifhnidcodhoeaaBs
import Derived.Lib.AppendZeros
namespace Go.Proofs.Ytifhnidcodhoeaa
set_option maxRecDepth 100000
open Go.RowKit
set_option linter.unusedVariables false
set_option linter.unusedSimpArgs false


def NewEls (w : World) (l : List El) (e : Ending) (w' : World) : Prop := ∃ v, e = .returned v ∧ w'.ownsRow w.heap.size 35 10 v l.length (elsV l) ∧ Turn (fun _ => False) w w'
/-- Some charts, as a call of many holds them. -/
structure ManyV (w : World) (G : Nat) (f : Nat → Value) (L : List (List El)) : Prop where
  lt : G < w.heap.size
  at_ : ∀ k, k < L.length → w.cell? ⟨G, k, none⟩ = some (f k)
  row : ∀ k, k < L.length → RowV w (f k) (L.getD k [])
theorem ManyV.turn {w w' : World} {G : Nat} {f : Nat → Value} {L : List (List El)} (h : ManyV w G f L) (t : Turn (fun _ => False) w w') : ManyV w' G f L :=
  ⟨Nat.lt_of_lt_of_le h.lt t.size, fun k hk => (t.cell (p := ⟨G, k, none⟩) h.lt id).trans (h.at_ k hk), fun k hk => (h.row k hk).turn t (fun _ _ => id)⟩
end Go.Proofs.Ytifhnidcodhoeaa
