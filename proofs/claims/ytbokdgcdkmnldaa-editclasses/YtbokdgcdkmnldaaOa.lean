/- Own contracts: acts and bytes opened. No statement is proved here. -/
import Derived.Test.YtbokdgcdkmnldaaOp
namespace Go.Proofs.Ytbokdgcdkmnldaa
set_option maxRecDepth 100000
open Go.RowKit
set_option linter.unusedVariables false
set_option linter.unusedSimpArgs false


open Go.ChangeShapes Go.WideShapes Go.ChangeAt
/-- An argument that is a slice of bytes. -/
theorem open_bytes {H : Type} {enc : TypeId × Value → H} {w : World} {base b0 : Nat} {r : Reach} {held : Bool} {v : Value} {d : DataW H} {p : List MemPlace}
    (hv : Value.okWide Try.prog w r b0 41 v) (h : DataW.Trod enc Try.prog w base (fun _ => true) held 41 v d p) : ∃ xs : List Int, Src w v xs ∧ (∀ x ∈ xs, 0 ≤ x ∧ x < 256) ∧ xs.length ≤ maxLen ∧ (∀ q, v.ownBlock = some q → 0 < xs.length → q < w.heap.size) := by
  obtain ⟨a0, len0, cap0, rfl⟩ := okWide_slice Try.underlying41 hv
  obtain ⟨fuel, hf⟩ := h
  rcases DataW.trod_slice Try.underlying41 hf with ⟨hcs, _⟩ | ⟨x, l, c, elems, rest, m, _, hcs, _, hb, hl, hm, hlen, hel, _, _⟩
  · simp [Value.cells] at hcs
    obtain ⟨rfl, rfl, rfl⟩ := hcs
    exact ⟨[], .inl (.inl ⟨rfl, rfl⟩), (fun x hx => by cases hx), by simp, (fun q _ h => by simp at h)⟩
  · simp [Value.cells] at hcs
    obtain ⟨rfl, rfl, rfl⟩ := hcs
    have hs := spot_none Try.underlying41 hv
    obtain ⟨g, o, sp⟩ := x
    dsimp only at hs
    subst hs
    have each : ∀ i, i < len0 → ∃ n : Int, w.cell? ⟨g, o + i, none⟩ = some (.int .u8 n) ∧ 0 ≤ n ∧ n < 256 := fun i hi => by
      have h1 := hel i hi
      rw [cells5] at h1
      obtain ⟨y, hy⟩ : ∃ y, elems[i]? = some y := ⟨elems[i]'(by omega), List.getElem?_eq_getElem (by omega)⟩
      rw [hy] at h1
      rw [Addr.add_mid] at h1
      obtain ⟨cs, hcs, htr⟩ := Option.bind_eq_some_iff.1 h1
      obtain ⟨_, hc3, hcell⟩ := World.cells?_some hcs
      match cs, hc3 with
      | [v0], _ =>
        obtain ⟨k, hk, _, wk⟩ := DataW.trod_int Try.underlying5 htr
        obtain rfl : v0 = .int .u8 k := by simpa using hk
        have := hcell 0 (by omega)
        rw [Addr.add_mid] at this
        simp only [Nat.mul_one, Nat.add_zero] at this
        exact ⟨k, by rw [this]; rfl, wf_u8 wk⟩
    refine ⟨List.ofFn fun i : Fin len0 => Classical.choose (each i i.2), .inl (.inr ⟨g, o, cap0, by simp, by simp; omega, fun i hi => ?_⟩), fun x hx => ?_, by simp; omega, fun q hq hpos => ?_⟩
    · have hi' : i < len0 := by simpa using hi
      have : (List.ofFn fun i : Fin len0 => Classical.choose (each i i.2)).getD i 0 = Classical.choose (each i hi') := by simp [List.getD, hi']
      rw [this]
      exact (Classical.choose_spec (each i hi')).1
    · obtain ⟨i, rfl⟩ := List.mem_ofFn.1 hx
      have := (Classical.choose_spec (each i i.2)).2
      omega
    · cases hq
      obtain ⟨_, h1, _⟩ := each 0 (by simpa using hpos)
      exact World.block_lt_of_cell? w _ h1
end Go.Proofs.Ytbokdgcdkmnldaa
