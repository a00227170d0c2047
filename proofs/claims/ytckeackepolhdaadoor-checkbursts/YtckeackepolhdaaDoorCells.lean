/- Own: blocks that hold just these bytes; a slice that is made. No statement is proved here. -/
import Derived.Test.YtckeackepolhdaaDoorOf
import Derived.Laws.MakeOwn
namespace Go.Proofs.YtckeackepolhdaaDoor
open Go.RowKit
set_option linter.unusedVariables false

/-- A block of memory that holds bytes. -/
def BytesAt (w : World) (B : Nat) (t : TypeId) (ws : List Int) : Prop := w.heap[B]? = some (.cells (ws.map (Value.int .u8)).toArray t (0, 0))
theorem BytesAt.cell {w : World} {B : Nat} {t : TypeId} {ws : List Int} (h : BytesAt w B t ws) (i : Nat) (hi : i < ws.length) : w.cell? ⟨B, i, none⟩ = some (.int .u8 (ws.getD i 0)) := by
  rw [cell_of_row w B i _ t (0, 0) h]
  simp [List.getD, hi]
theorem BytesAt.open_ {w : World} {B : Nat} {t : TypeId} {ws : List Int} (h : BytesAt w B t ws) (i : Nat) : w.frozen? ⟨B, i, none⟩ = false := frozen_of_row w B i _ t h
theorem BytesAt.lt {w : World} {B : Nat} {t : TypeId} {ws : List Int} (h : BytesAt w B t ws) : B < w.heap.size := (Array.getElem?_eq_some_iff.1 h).1
theorem BytesAt.set {w : World} {B : Nat} {t : TypeId} {ws : List Int} (h : BytesAt w B t ws) (i : Nat) (v : Int) : BytesAt (w.setCell ⟨B, i, none⟩ (.int .u8 v)) B t (ws.set i v) := by
  unfold BytesAt
  rw [heap_setCell_same w B i _ t _ h]
  simp
theorem BytesAt.turn {w w' : World} {B : Nat} {t : TypeId} {ws : List Int} {S : Nat → Prop} (h : BytesAt w B t ws) (ht : Turn S w w') (hB : ¬ S B) : BytesAt w' B t ws := (ht.block B h.lt hB).trans h
theorem BytesAt.drew {w : World} {B : Nat} {t : TypeId} {ws : List Int} (h : BytesAt w B t ws) : BytesAt w.drew B t ws := h
theorem BytesAt.reads {w : World} {B : Nat} {ws : List Int} (h : BytesAt w B 5 ws) (c : Nat) (n : Nat) (hn : n = ws.length) (hc : n ≤ c) : Reads w (.slice (some ⟨B, 0, none⟩) n c) ws := by
  subst hn
  exact .inr ⟨B, 0, c, rfl, hc, fun i hi => by rw [Nat.zero_add]; exact h.cell i hi⟩
theorem set_at {α : Type} (xs zs : List α) (z v : α) (n : Nat) (h : xs.length = n) : (xs ++ z :: zs).set n v = xs ++ v :: zs := by subst h; simp

theorem made_bytes (n : Nat) : madeCells (Value.int .u8 0).cells n = Array.replicate n (.int .u8 0) := by
  apply Array.ext
  · simp [madeCells]
  · intro i h1 h2
    simp [madeCells, Value.cells, Nat.mod_one]
theorem run_make_bytes (l c : Nat) (hlc : l ≤ c) (hc : c ≤ 100000000000000) (w : World) :
    (Instr.makeSlice 22 (.int .i64 (l : Int)) (.int .i64 (c : Int))).run Tryd.prog w = .ok (.slice (some ⟨w.heap.size, 0, none⟩) l c) (w.alloc (.cells (Array.replicate c (.int .u8 0)) 5)) := by
  obtain ⟨i0, hi, hz0, hz1, hz2⟩ := info_parts Tryd.info5
  have h := run_make (P := Tryd.prog) w 22 5 i0 _ Tryd.underlying22 hi hz0 .i64 .i64 (l : Int) (c : Int) (by omega) (by omega) (by rw [hz2]; omega) (by omega)
  rw [h, hz1, Nat.mul_one, Int.toNat_natCast, Int.toNat_natCast, made_bytes]
theorem made_at (w : World) (n : Nat) : BytesAt (w.alloc (.cells (Array.replicate n (.int .u8 0)) 5)) w.heap.size 5 (List.replicate n 0) := by
  unfold BytesAt
  rw [heap_alloc_new]
  simp
end Go.Proofs.YtckeackepolhdaaDoor
