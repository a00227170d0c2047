/- Own texts, packed: Rv. No statement is proved here. -/
import Derived.Test.YtkciaafkhpjnaaaQ22
import Derived.Test.YtkciaafkhpjnaaaQ31
namespace Go.Proofs.Ytkciaafkhpjnaaa
set_option maxRecDepth 100000
open Go.RowKit
set_option linter.unusedVariables false
set_option linter.unusedSimpArgs false

theorem els_agg : ∀ w, (isAgg 38).run Try.prog w = .ok true w := fun w => by kernel_rfl
theorem els_size : ∀ w, (Go.sizeOf 38).run Try.prog w = .ok 10 w := fun w => by kernel_rfl
instance : Inhabited El := ⟨el0⟩
theorem rev_els (w : World) (base : Nat) (a : Option Addr) (n c : Nat) (l : List El) (ho : w.ownsRow base 38 10 (.slice a n c) n (elsV l)) (hn : l.length = n) (hb : n ≤ 1000) : Calls Try.prog 28 #[.slice a n c] w fun e w' => e = .returned (.tuple #[]) ∧ w'.ownsRow base 38 10 (.slice a n c) n (elsV l.reverse) ∧ Turn (fun q => (Value.slice a n c).ownBlock = some q) w w' := by
  by_cases h0 : n = 0
  · subst h0
    have hl : l = [] := List.length_eq_zero_iff.1 hn
    subst hl
    have h := AnyQ.slices_Reverse_empty Try.revEl a c w
    change Calls Try.prog 28 _ _ _ at h
    refine h.mono ?_
    rintro e w' ⟨rfl, rfl⟩
    exact ⟨rfl, ho, Turn.refl _ _⟩
  · obtain ⟨g, rfl⟩ : ∃ g, a = some ⟨g, 0, none⟩ := by
      rcases ho.2 with ⟨h, h1⟩ | ⟨g, cap, cur, hv, _⟩
      · omega
      · cases hv; exact ⟨g, rfl⟩
    have hH := row_holds (fun x => x.vlen) (by decide) ho hn
    have h := AnyQ.slices_Reverse Try.revEl 10 els_agg els_size El.vals (fun x => x.vlen) (fun x => x.vals_one) g 0 c l.toArray w hH (by simp only [List.size_toArray]; omega)
    change Calls Try.prog 28 _ _ _ at h
    simp only [List.size_toArray, hn] at h
    refine h.mono ?_
    rintro e w' ⟨rfl, m, rfl⟩
    obtain ⟨q1, q2⟩ := sort_own (l' := l.reverse) (fun x => x.vlen) (by decide) ho (by rw [List.length_reverse]; exact hn) m #[]
    rw [show l.toArray.reverse = l.reverse.toArray by simp]
    unfold sortWorldK at q1 q2
    rw [Sort.grow_empty] at q1 q2
    exact ⟨rfl, q1, q2.mono (fun q _ e => by rw [e]; rfl)⟩

end Go.Proofs.Ytkciaafkhpjnaaa
