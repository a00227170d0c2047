/- Own contracts: the document's rules, one by one. No statement is proved here. -/
import Derived.Test.YtifhnidcodhoeaaRul
namespace Go.Proofs.Ytifhnidcodhoeaa
set_option maxRecDepth 100000
open Go.RowKit
set_option linter.unusedVariables false
set_option linter.unusedSimpArgs false

structure CellsE (w : World) (X o : Nat) (x : El) : Prop where
  c0 : w.cell? ⟨X, o + 0, none⟩ = some (.int .i64 x.id)
  c1 : w.cell? ⟨X, o + 1, none⟩ = some (.int .u8 x.kind)
  c2 : w.cell? ⟨X, o + 2, none⟩ = some (.int .i64 x.par)
  c3 : w.cell? ⟨X, o + 3, none⟩ = some (.int .i64 x.ord)
  c4 : w.cell? ⟨X, o + 4, none⟩ = some (.string x.name)
  c5 : w.cell? ⟨X, o + 5, none⟩ = some (.int .i64 x.frm)
  c6 : w.cell? ⟨X, o + 6, none⟩ = some (.int .i64 x.to)
  c7 : w.cell? ⟨X, o + 7, none⟩ = some (.string x.ev)
  c8 : w.cell? ⟨X, o + 8, none⟩ = some (.string x.gd)
  c9 : w.cell? ⟨X, o + 9, none⟩ = some (.string x.ac)
theorem cellsE {w : World} {X o : Nat} {x : El} (h : w.rangeAt X o x.vals) : CellsE w X o x :=
  ⟨h 0 _ rfl, h 1 _ rfl, h 2 _ rfl, h 3 _ rfl, h 4 _ rfl, h 5 _ rfl, h 6 _ rfl, h 7 _ rfl, h 8 _ rfl, h 9 _ rfl⟩
end Go.Proofs.Ytifhnidcodhoeaa
