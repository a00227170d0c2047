/- Own texts, packed: En. No statement is proved here. -/
import Derived.Test.YtkciaafkhpjnaaaQ09
import Derived.Lib.SlBytesConst
namespace Go.Proofs.Ytkciaafkhpjnaaa
set_option maxRecDepth 100000
open Go.RowKit
set_option linter.unusedVariables false
set_option linter.unusedSimpArgs false


/-- What an element of a right chart keeps. -/
structure Fine (x : El) : Prop where
  id : 1 ≤ x.id ∧ x.id ≤ 1048576
  par : 0 ≤ x.par ∧ x.par ≤ 1048576
  ord : 0 ≤ x.ord ∧ x.ord ≤ 1048576
  frm : 0 ≤ x.frm ∧ x.frm ≤ 1048576
  to : 0 ≤ x.to ∧ x.to ≤ 1048576
  name : x.name.size ≤ 12
  ev : x.ev.size ≤ 12
  gd : x.gd.size ≤ 12
  ac : x.ac.size ≤ 12
theorem fine_iff {x : El} : fineB x = true ↔ Fine x := by
  constructor
  · intro h
    unfold fineB at h
    rw [Bool.and_eq_true, Bool.and_eq_true, List.all_eq_true, List.all_eq_true] at h
    obtain ⟨h1, h2, h3⟩ := h
    have n := fun k (hk : k < 4) => of_decide_eq_true (h2 k (by simpa using hk))
    have s := fun k (hk : k < 4) => of_decide_eq_true (h3 k (by simpa using hk))
    exact ⟨of_decide_eq_true h1, n 0 (by omega), n 1 (by omega), n 2 (by omega), n 3 (by omega), s 0 (by omega), s 1 (by omega), s 2 (by omega), s 3 (by omega)⟩
  · intro h
    refine fine_all h.id (fun k hk => ?_) (fun k hk => ?_)
    · rcases (by omega : k = 0 ∨ k = 1 ∨ k = 2 ∨ k = 3) with rfl | rfl | rfl | rfl
      · exact decide_eq_true h.par
      · exact decide_eq_true h.ord
      · exact decide_eq_true h.frm
      · exact decide_eq_true h.to
    · rcases (by omega : k = 0 ∨ k = 1 ∨ k = 2 ∨ k = 3) with rfl | rfl | rfl | rfl
      · exact h.name
      · exact h.ev
      · exact h.gd
      · exact h.ac
theorem right_iff {l : List El} : rightE l = true ↔ l.length ≤ 40 ∧ Rises l ∧ ∀ x ∈ l, Fine x := by
  unfold rightE allFine
  rw [Bool.and_eq_true, Bool.and_eq_true, risesB_iff, decide_eq_true_eq, List.all_eq_true]
  constructor
  · rintro ⟨h1, h2, h3⟩; exact ⟨h1, h2, fun x hx => fine_iff.1 (h3 x hx)⟩
  · rintro ⟨h1, h2, h3⟩; exact ⟨h1, h2, fun x hx => fine_iff.2 (h3 x hx)⟩
/-- A pen at work, beside an element. -/
structure EncS (w W : World) (B E : Nat) (x : El) (v : Value) (xs : List Int) : Prop where
  pen : PenIs W w.heap.size B v xs
  turn : Turn (fun _ => False) w W
  big : w.heap.size ≤ B
  ne : ∀ k, v.ownBlock = some k → k ≠ E
  cells : W.rangeAt E 0 x.vals
  lt : E < W.heap.size
  eb : E ≠ B
theorem EncS.drew {w W : World} {B E : Nat} {x : El} {v : Value} {xs : List Int} (h : EncS w W B E x v xs) : EncS w W.drew B E x v xs := by
  have t := (Turn.refl (fun _ => False) W).drew
  exact ⟨h.pen.turn t id (fun _ _ => id), h.turn.drew, h.big, h.ne, rangeAt_turn h.cells t id, h.lt, h.eb⟩
end Go.Proofs.Ytkciaafkhpjnaaa
