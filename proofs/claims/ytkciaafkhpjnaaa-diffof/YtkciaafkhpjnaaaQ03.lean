/- Own texts, packed: Eye. No statement is proved here. -/
import Derived.Test.YtkciaafkhpjnaaaQ02
import Derived.Deep.QuietTactic
import Derived.BigQuiet
namespace Go.Proofs.Ytkciaafkhpjnaaa
open Go.RowKit

/-- A slice value that reads as the bytes xs. -/
def Reads (w : World) (v : Value) (xs : List Int) : Prop :=
  (v = .slice none 0 0 ∧ xs = []) ∨ ∃ g o cap, v = .slice (some ⟨g, o, none⟩) xs.length cap ∧ xs.length ≤ cap ∧ ∀ i, i < xs.length → w.cell? ⟨g, o + i, none⟩ = some (.int .u8 (xs.getD i 0))

theorem Reads.conv {w : World} {v : Value} {xs : List Int} (h : Reads w v xs) : (convert 60 9 v).run Try.prog w = .ok (.string (strOfNums xs)) w := by
  rcases h with ⟨rfl, rfl⟩ | ⟨g, o, cap, rfl, hc, hcell⟩
  · rw [run_convert_bytes_nil (P := Try.prog) w 60 5 Try.underlying60 Try.underlying5 0 0 9 Try.underlying9]; rfl
  · exact run_convert_bytes_arg (P := Try.prog) w 60 5 Try.underlying60 Try.underlying5 g o xs.length cap xs rfl hcell 9 Try.underlying9

/-- .. or an empty one, wherever it lies. -/
def Src (w : World) (v : Value) (xs : List Int) : Prop := Reads w v xs ∨ ∃ x c, v = .slice (some x) 0 c ∧ xs = []

theorem conv_empty (w : World) (x : Addr) (c : Nat) : (convert 60 9 (.slice (some x) 0 c)).run Try.prog w = .ok (.string (strOfNums [])) w :=
  run_convert_bytes_back (P := Try.prog) w 60 9 5 x c [] Try.underlying60 Try.underlying5 Try.underlying9 (fun j hj => by simp at hj)

theorem Src.conv {w : World} {v : Value} {xs : List Int} (h : Src w v xs) : (convert 60 9 v).run Try.prog w = .ok (.string (strOfNums xs)) w := by
  rcases h with h | ⟨x, c, rfl, rfl⟩
  · exact h.conv
  · exact conv_empty w x c

theorem Reads.turn {S : Nat → Prop} {w w' : World} {v : Value} {xs : List Int} (h : Reads w v xs) (ht : Turn S w w') (hn : ∀ k, v.ownBlock = some k → ¬ S k) : Reads w' v xs := by
  rcases h with h | ⟨g, o, cap, rfl, hc, hcell⟩
  · exact .inl h
  · refine .inr ⟨g, o, cap, rfl, hc, fun i hi => ?_⟩
    have hb := World.block_lt_of_cell? w _ (hcell i hi)
    exact (ht.cell (p := ⟨g, o + i, none⟩) hb (hn g rfl)).trans (hcell i hi)

theorem Src.turn {S : Nat → Prop} {w w' : World} {v : Value} {xs : List Int} (h : Src w v xs) (ht : Turn S w w') (hn : ∀ k, v.ownBlock = some k → ¬ S k) : Src w' v xs := by
  rcases h with h | h
  · exact .inl (h.turn ht hn)
  · exact .inr h

/-- An eye at block X. -/
structure EyeIs (w : World) (X : Nat) (v : Value) (f : Int) : Prop where
  rest : w.cell? ⟨X, 0, none⟩ = some v
  fault : w.cell? ⟨X, 1, none⟩ = some (.int .i64 f)
  open0 : w.frozen? ⟨X, 0, none⟩ = false
  open1 : w.frozen? ⟨X, 1, none⟩ = false
  apart : v.ownBlock ≠ some X

theorem EyeIs.lt {w : World} {X : Nat} {v : Value} {f : Int} (h : EyeIs w X v f) : X < w.heap.size := World.block_lt_of_cell? w _ h.rest

theorem EyeIs.turn {w w' : World} {X : Nat} {v : Value} {f : Int} {S : Nat → Prop} (h : EyeIs w X v f) (ht : Turn S w w') (hX : ¬ S X) : EyeIs w' X v f :=
  ⟨(ht.cell (p := ⟨X, 0, none⟩) h.lt hX).trans h.rest, (ht.cell (p := ⟨X, 1, none⟩) h.lt hX).trans h.fault, (ht.frozen (p := ⟨X, 0, none⟩) h.lt hX).trans h.open0, (ht.frozen (p := ⟨X, 1, none⟩) h.lt hX).trans h.open1, h.apart⟩

end Go.Proofs.Ytkciaafkhpjnaaa
