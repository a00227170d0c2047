/- Own contract: a run is put among others. No statement is proved here. -/
import Derived.Test.YtmhdcpkncaghpaaFnd
namespace Go.Proofs.Ytmhdcpkncaghpaa
open Go.RowKit
set_option linter.unusedVariables false
set_option linter.unusedSimpArgs false

/-- A variable that is a run. -/
def BoxAt (w : World) (R x y : Nat) : Prop := w.heap[R]? = some (.cells #[.int .i64 (x : Int), .int .i64 (y : Int)] 43 (0, 0))
theorem BoxAt.lt {w : World} {R x y : Nat} (h : BoxAt w R x y) : R < w.heap.size := (Array.getElem?_eq_some_iff.1 h).1
theorem BoxAt.c0 {w : World} {R x y : Nat} (h : BoxAt w R x y) : w.cell? ⟨R, 0, none⟩ = some (.int .i64 (x : Int)) := cell_of_row w R 0 _ 43 (0, 0) h
theorem BoxAt.c1 {w : World} {R x y : Nat} (h : BoxAt w R x y) : w.cell? ⟨R, 1, none⟩ = some (.int .i64 (y : Int)) := cell_of_row w R 1 _ 43 (0, 0) h
theorem BoxAt.free {w : World} {R x y : Nat} (h : BoxAt w R x y) (i : Nat) : w.frozen? ⟨R, i, none⟩ = false := frozen_of_row w R i _ 43 h
theorem BoxAt.set0 {w : World} {R x y : Nat} (h : BoxAt w R x y) (z : Nat) : BoxAt (w.setCell ⟨R, 0, none⟩ (.int .i64 (z : Int))) R z y := by
  unfold BoxAt; rw [heap_setCell_same w R 0 _ 43 _ h]; rfl
theorem BoxAt.set1 {w : World} {R x y : Nat} (h : BoxAt w R x y) (z : Nat) : BoxAt (w.setCell ⟨R, 1, none⟩ (.int .i64 (z : Int))) R x z := by
  unfold BoxAt; rw [heap_setCell_same w R 1 _ 43 _ h]; rfl
/-- Where insert stands: the map as it was, and its own variable. -/
structure InSt (w0 w : World) (D P : Nat) (v : Value) (L : List (Nat × Nat)) (R x y : Nat) : Prop where
  map : MapIn w D P v L
  box : BoxAt w R x y
  new : w0.heap.size ≤ R
  old : MapIn w0 D P v L
  turn : Turn (fun _ => False) w0 w
theorem InSt.nD {w0 w : World} {D P : Nat} {v : Value} {L : List (Nat × Nat)} {R x y : Nat} (h : InSt w0 w D P v L R x y) : R ≠ D := by
  have := h.old.lt
  have := h.new
  omega
theorem InSt.nv {w0 w : World} {D P : Nat} {v : Value} {L : List (Nat × Nat)} {R x y : Nat} (h : InSt w0 w D P v L R x y) : v.ownBlock ≠ some R := by
  intro e
  have := (h.old.own.lt R e).2
  have := h.new
  omega
theorem InSt.drew {w0 w : World} {D P : Nat} {v : Value} {L : List (Nat × Nat)} {R x y : Nat} (h : InSt w0 w D P v L R x y) : InSt w0 w.drew D P v L R x y :=
  ⟨h.map.none (Turn.refl _ _).drew, h.box, h.new, h.old, h.turn.drew⟩
theorem InSt.set0 {w0 w : World} {D P : Nat} {v : Value} {L : List (Nat × Nat)} {R x y : Nat} (h : InSt w0 w D P v L R x y) (z : Nat) : InSt w0 (w.setCell ⟨R, 0, none⟩ (.int .i64 (z : Int))) D P v L R z y :=
  ⟨h.map.turn (S := fun k => k = R) (Turn.setCell (S := fun k => k = R) (Turn.refl _ w) (p := ⟨R, 0, none⟩) (fun _ => rfl) _) (fun e => h.nD e.symm) (fun k hk e => h.nv (by rw [hk, e])), h.box.set0 z, h.new, h.old, h.turn.setCell (p := ⟨R, 0, none⟩) (fun hh => absurd hh (Nat.not_lt.2 h.new)) _⟩
theorem InSt.set1 {w0 w : World} {D P : Nat} {v : Value} {L : List (Nat × Nat)} {R x y : Nat} (h : InSt w0 w D P v L R x y) (z : Nat) : InSt w0 (w.setCell ⟨R, 1, none⟩ (.int .i64 (z : Int))) D P v L R x z :=
  ⟨h.map.turn (S := fun k => k = R) (Turn.setCell (S := fun k => k = R) (Turn.refl _ w) (p := ⟨R, 1, none⟩) (fun _ => rfl) _) (fun e => h.nD e.symm) (fun k hk e => h.nv (by rw [hk, e])), h.box.set1 z, h.new, h.old, h.turn.setCell (p := ⟨R, 1, none⟩) (fun hh => absurd hh (Nat.not_lt.2 h.new)) _⟩

/-- What a map is behind a call that turned its runs. -/
def MPost (w : World) (D P : Nat) (v : Value) (L' : List (Nat × Nat)) (w' : World) : Prop :=
  ∃ v', MapIn w' D P v' L' ∧ Fresh w v v' ∧ Turn (fun k => k = D ∨ v.ownBlock = some k) w w'

/-- A slice of one run. -/
theorem one_run (w : World) (x y : Nat) : (w.alloc (.cells #[.int .i64 (x : Int), .int .i64 (y : Int)] 43)).ownsRow 0 43 2 (.slice (some ⟨w.heap.size, 0, none⟩) 1 1) [(x, y)].length (flat [(x, y)]) :=
  ⟨rfl, .inr ⟨w.heap.size, 1, #[.int .i64 (x : Int), .int .i64 (y : Int)], rfl, Nat.zero_le _, heap_alloc_new w _, Nat.le_refl _, by decide, rfl, rfl⟩⟩

/-- The end of it: the call of Replace is made, its answer is stored. -/
theorem in_end {w0 w w2 : World} {D P : Nat} {v v' : Value} {L L' : List (Nat × Nat)} {R x y : Nat} (h : InSt w0 w D P v L R x y) (o : Obj)
    (ho : w2.ownsRow 0 43 2 v' L'.length (flat L')) (hf : Fresh (w.alloc o) v v') (hT : Turn (fun k => v.ownBlock = some k) (w.alloc o) w2) :
    MPost w0 D P v L' (w2.setCell ⟨D, 1, none⟩ v') := by
  have hDs := h.map.lt
  have T1 : Turn (fun k => v.ownBlock = some k) w0 w2 := (h.turn.alloc o).mono (fun _ _ h => h.elim) |>.trans hT (fun _ _ => id)
  have hs : w0.heap.size ≤ (w.alloc o).heap.size := (h.turn.alloc o).size
  have hF : Fresh w0 v v' := (Fresh.refl _ _).trans hs hf
  have hvD : v'.ownBlock ≠ some D := by
    intro e
    exact h.map.apart (hf.old e (by simp; omega))
  have hD2 : w2.heap[D]? = some (.cells #[.int .i64 (P : Int), v] 41 (0, 0)) := by
    rw [hT.block D (by simp; omega) h.map.apart, Below.heap_alloc w o D hDs]
    exact h.map.head
  refine ⟨v', ⟨?_, ?_, hvD⟩, hF, ?_⟩
  · rw [heap_setCell_same w2 D 1 _ 41 _ hD2]; rfl
  · exact ((Turn.refl (fun k => k = D) w2).setCell (p := ⟨D, 1, none⟩) (fun _ => rfl) v').owns ho (fun k hk e => hvD (by rw [hk, e]))
  · exact Turn.setCell (S := fun k => k = D ∨ v.ownBlock = some k) (T1.mono (fun _ _ e => Or.inr e)) (p := ⟨D, 1, none⟩) (fun _ => .inl rfl) v'


/-- The variable stands behind the call. -/
theorem in_box {w0 w w2 : World} {D P : Nat} {v : Value} {L : List (Nat × Nat)} {R x y : Nat} (h : InSt w0 w D P v L R x y) (o : Obj) (hT : Turn (fun k => v.ownBlock = some k) (w.alloc o) w2) : w2.cell? ⟨R, 0, none⟩ = some (.int .i64 (x : Int)) ∧ w2.cell? ⟨R, 1, none⟩ = some (.int .i64 (y : Int)) := by
  have hb : BoxAt w2 R x y := by
    unfold BoxAt
    rw [hT.block R (by have := h.box.lt; simp; omega) h.nv, Below.heap_alloc w o R h.box.lt]
    exact h.box
  exact ⟨hb.c0, hb.c1⟩
theorem in_call {w0 w : World} {D P : Nat} {v : Value} {L : List (Nat × Nat)} {R x y : Nat} (h : InSt w0 w D P v L R x y) (fr to : Nat) (h1 : fr ≤ to) (h2 : to ≤ L.length) (hb : L.length ≤ 6000) :
    Calls Try.prog 22 #[v, .int .i64 (fr : Int), .int .i64 (to : Int), .slice (some ⟨w.heap.size, 0, none⟩) 1 1] (w.alloc (.cells #[.int .i64 (x : Int), .int .i64 (y : Int)] 43)) (ReplPost (w.alloc (.cells #[.int .i64 (x : Int), .int .i64 (y : Int)] 43)) v (L.take fr ++ [(x, y)] ++ L.drop to)) := by
  refine replace_any _ v _ fr to L [(x, y)] (h.map.none ((Turn.refl _ w).alloc _)).own (one_run w x y) ?_ (fun _ => by simp) (by simp; omega) h1 h2
  intro k hk e
  cases hk
  have := (h.map.own.lt w.heap.size e).2
  omega


theorem own_form {w : World} {v : Value} {L : List (Nat × Nat)} (h : w.ownsRow 0 43 2 v L.length (flat L)) : ∃ a n cap, v = .slice a n cap := by
  obtain ⟨a, cap, e⟩ := own_shape h
  exact ⟨a, _, cap, e⟩

theorem in_free {w0 w w2 : World} {D P : Nat} {v : Value} {L : List (Nat × Nat)} {R x y : Nat} (h : InSt w0 w D P v L R x y) (o : Obj) (hT : Turn (fun k => v.ownBlock = some k) (w.alloc o) w2) : w2.frozen? ⟨D, 1, none⟩ = false := by
  have hD2 : w2.heap[D]? = some (.cells #[.int .i64 (P : Int), v] 41 (0, 0)) := by
    rw [hT.block D (by have := h.map.lt; simp; omega) h.map.apart, Below.heap_alloc w o D h.map.lt]
    exact h.map.head
  exact frozen_of_row w2 D 1 _ 41 hD2
theorem in_some {w0 w w2 : World} {D P : Nat} {v : Value} {L : List (Nat × Nat)} {R x y : Nat} (h : InSt w0 w D P v L R x y) (o : Obj) (hT : Turn (fun k => v.ownBlock = some k) (w.alloc o) w2) : ∃ u, w2.cell? ⟨D, 1, none⟩ = some u := by
  have hD2 : w2.heap[D]? = some (.cells #[.int .i64 (P : Int), v] 41 (0, 0)) := by
    rw [hT.block D (by have := h.map.lt; simp; omega) h.map.apart, Below.heap_alloc w o D h.map.lt]
    exact h.map.head
  exact ⟨v, cell_of_row w2 D 1 _ 41 (0, 0) hD2⟩
theorem in_new {w : World} {R x y : Nat} (o : Obj) (b0 : w.cell? ⟨R, 0, none⟩ = some (.int .i64 (x : Int))) (b1 : w.cell? ⟨R, 1, none⟩ = some (.int .i64 (y : Int))) : (w.alloc o).cell? ⟨R, 0, none⟩ = some (.int .i64 (x : Int)) ∧ (w.alloc o).cell? ⟨R, 1, none⟩ = some (.int .i64 (y : Int)) := by
  rw [World.cell?_alloc_some _ _ _ (by rw [b0]; rfl), World.cell?_alloc_some _ _ _ (by rw [b1]; rfl)]
  exact ⟨b0, b1⟩
theorem in_newD {w : World} {D : Nat} {v : Value} (o : Obj) (b0 : w.cell? ⟨D, 1, none⟩ = some v) : (w.alloc o).cell? ⟨D, 1, none⟩ = some v := by
  rw [World.cell?_alloc_some _ _ _ (by rw [b0]; rfl)]
  exact b0
theorem in_last {w0 w w2 : World} {D P : Nat} {v v' : Value} {L : List (Nat × Nat)} {R x y : Nat} (h : InSt w0 w D P v L R x y) (hb : w2.cell? ⟨R, 0, none⟩ = some (.int .i64 (x : Int)) ∧ w2.cell? ⟨R, 1, none⟩ = some (.int .i64 (y : Int))) : (w2.setCell ⟨D, 1, none⟩ v').cell? ⟨R, 0, none⟩ = some (.int .i64 (x : Int)) ∧ (w2.setCell ⟨D, 1, none⟩ v').cell? ⟨R, 1, none⟩ = some (.int .i64 (y : Int)) := by
  rw [World.cell?_setCell_far _ _ _ _ (fun e => h.nD e.symm), World.cell?_setCell_far _ _ _ _ (fun e => h.nD e.symm)]
  exact hb

end Go.Proofs.Ytmhdcpkncaghpaa
