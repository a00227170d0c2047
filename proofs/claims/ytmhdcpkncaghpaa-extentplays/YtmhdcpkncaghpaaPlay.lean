/- Own: loops of ExtentPlays. No statement is proved here. -/
import Derived.Test.YtmhdcpkncaghpaaOpen
namespace Go.Proofs.Ytmhdcpkncaghpaa
open Go.RowKit
set_option linter.unusedVariables false
set_option linter.unusedSimpArgs false

/-- The loops of a code, in the order of the text. -/
def loopsOf : Code → List Code
  | .loop c => c :: loopsOf c
  | .seq a b => loopsOf a ++ loopsOf b
  | .block _ c => loopsOf c
  | .scope c => loopsOf c
  | .cond _ a b => loopsOf a ++ loopsOf b
  | _ => []
noncomputable def playLoops : List Code := match Try.f3.body with | some c => loopsOf c | none => []
noncomputable def playBody (n : Nat) : Code := playLoops.getD n .skip
/-- A row of truths. -/
def bools (us : List Bool) : List Value := us.map Value.bool
def TrueIn (w : World) (B : Nat) (us : List Bool) : Prop := w.heap[B]? = some (.cells (bools us).toArray 4 (0, 0))
theorem TrueIn.cell {w : World} {B : Nat} {us : List Bool} (h : TrueIn w B us) (i : Nat) (hi : i < us.length) : w.cell? ⟨B, i, none⟩ = some (.bool (us.getD i false)) := by
  rw [cell_of_row w B i _ 4 (0, 0) h]
  simp [bools, List.getD, hi]
theorem TrueIn.free {w : World} {B : Nat} {us : List Bool} (h : TrueIn w B us) (i : Nat) : w.frozen? ⟨B, i, none⟩ = false := frozen_of_row w B i _ 4 h
theorem TrueIn.lt {w : World} {B : Nat} {us : List Bool} (h : TrueIn w B us) : B < w.heap.size := (Array.getElem?_eq_some_iff.1 h).1
theorem TrueIn.set {w : World} {B : Nat} {us : List Bool} (h : TrueIn w B us) (i : Nat) (b : Bool) : TrueIn (w.setCell ⟨B, i, none⟩ (.bool b)) B (us.set i b) := by
  unfold TrueIn
  rw [heap_setCell_same w B i _ 4 _ h]
  simp [bools]
theorem TrueIn.turn {w w' : World} {B : Nat} {us : List Bool} {S : Nat → Prop} (h : TrueIn w B us) (ht : Turn S w w') (hB : ¬ S B) : TrueIn w' B us := (ht.block B h.lt hB).trans h
/-- All of so many are other than b. -/
def allNe (us : List Bool) (b : Bool) (a : Nat) : Nat → Bool
  | 0 => true
  | j + 1 => allNe us b a j && (us.getD (a + j) false != b)
theorem allNe_mono {us : List Bool} {b : Bool} {a i j : Nat} (h : i ≤ j) (hf : allNe us b a i = false) : allNe us b a j = false := by
  induction j with
  | zero => obtain rfl : i = 0 := by omega
            exact hf
  | succ j ih =>
    by_cases e : i = j + 1
    · subst e; exact hf
    · rw [allNe, ih (by omega)]; rfl
theorem allNe_iff {us : List Bool} {b : Bool} {a n : Nat} : allNe us b a n = true ↔ ∀ p, a ≤ p → p < a + n → us.getD p false = !b := by
  induction n with
  | zero => simp [allNe]; intro p h1 h2; omega
  | succ n ih =>
    rw [allNe, Bool.and_eq_true, ih]
    constructor
    · rintro ⟨h1, h2⟩ p p1 p2
      by_cases e : p = a + n
      · subst e
        cases hu : us.getD (a + n) false <;> cases b <;> simp_all
      · exact h1 p p1 (by omega)
    · intro h
      refine ⟨fun p p1 p2 => h p p1 (by omega), ?_⟩
      rw [h (a + n) (by omega) (by omega)]
      cases b <;> rfl
/-- So many are set. -/
def setR (us : List Bool) (b : Bool) (a : Nat) : Nat → List Bool
  | 0 => us
  | j + 1 => (setR us b a j).set (a + j) b
theorem setR_len (us : List Bool) (b : Bool) (a j : Nat) : (setR us b a j).length = us.length := by
  induction j with
  | zero => rfl
  | succ j ih => simp [setR, ih]
theorem setR_get (us : List Bool) (b : Bool) (a n : Nat) (h : a + n ≤ us.length) (p : Nat) : (setR us b a n).getD p false = if a ≤ p ∧ p < a + n then b else us.getD p false := by
  induction n with
  | zero => rw [setR, if_neg (by omega)]
  | succ n ih =>
    have ih := ih (by omega)
    rw [setR]
    simp only [List.getD_eq_getElem?_getD, List.getElem?_set] at ih ⊢
    by_cases e : a + n = p
    · subst e
      rw [if_pos rfl, if_pos (by rw [setR_len]; omega), if_pos (by omega)]; rfl
    · rw [if_neg e, ih]
      by_cases c : a ≤ p ∧ p < a + n
      · rw [if_pos c, if_pos (by omega)]
      · rw [if_neg c, if_neg (by omega)]
end Go.Proofs.Ytmhdcpkncaghpaa
