/- Own lemmas: the pages of an act fit. No statement is proved here. -/
import Derived.Test.YtakmkkgpkbpbkaaPag
namespace Go.Proofs.Ytakmkkgpkbpbkaa
open Go.RowKit
theorem bump_len (i : Nat) (ps : List Int) : (bump i ps).length = ps.length := by cases ps <;> simp [bump]
theorem bump_ok (i : Nat) (ps : List Int) (h : BytesOk ps) : BytesOk (bump i ps) := by
  cases ps with
  | nil => exact h
  | cons x t =>
    intro y hy
    simp only [bump, List.mem_cons] at hy
    rcases hy with rfl | hy
    · omega
    · exact h y (List.mem_cons_of_mem _ hy)
theorem actP_fit (xa ps : List Int) (j : Nat) (hp : ps.length ≤ 64) : fitsB 12 (actP xa ps j) = true := by
  refine List.all_eq_true.2 (fun x hx => ?_)
  simp only [actP, List.mem_map, List.mem_range] at hx
  obtain ⟨i, _, rfl⟩ := hx
  simp only [bump_len, Bool.and_eq_true, decide_eq_true_eq]
  exact ⟨by omega, hp⟩
theorem actP_ok (xa ps : List Int) (j : Nat) (h : BytesOk ps) : ∀ x ∈ actP xa ps j, BytesOk x.2 := fun x hx => by
  simp only [actP, List.mem_map, List.mem_range] at hx
  obtain ⟨i, _, rfl⟩ := hx
  exact bump_ok i ps h
end Go.Proofs.Ytakmkkgpkbpbkaa
