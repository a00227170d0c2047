/- Own: an argument that is a slice of bytes, opened. No statement is proved here. -/
import Derived.Test.YtimajdbgeibalaaDoorLaid
namespace Go.Proofs.YtimajdbgeibalaaDoor
open Go.ChangeShapes Go.WideShapes Go.ChangeAt Go.RowKit
set_option linter.unusedVariables false
theorem wf_u8 {a : Int} (h : (Lit.int .u8 a).wf = true) : 0 ≤ a ∧ a < 256 := by
  have hh : 0 ≤ a ∧ a ≤ 255 := by simpa [Lit.wf, IntKind.min, IntKind.max, IntKind.signed, IntKind.bits] using h
  omega
theorem spot_none {w : World} {r : Reach} {b0 : Nat} {x : Addr} {l c : Nat} (hv : Value.okWide Tryd.prog w r b0 22 (.slice (some x) l c)) : x.spot = none := by
  simp only [Value.okWide, Tryd.underlying22, Cell.okWide, Cell.ok, World.has] at hv
  exact hv.2.2.2.1
/-- An argument that is a slice of bytes. -/
theorem open_bytes {H : Type} {enc : TypeId × Value → H} {w : World} {base b0 : Nat} {r : Reach} {held : Bool} {v : Value} {d : DataW H} {p : List MemPlace}
    (hv : Value.okWide Tryd.prog w r b0 22 v) (h : DataW.Trod enc Tryd.prog w base (fun _ => true) held 22 v d p) :
    ∃ xs : List Int, Reads w v xs ∧ (∀ x ∈ xs, 0 ≤ x ∧ x < 256) ∧ xs.length ≤ maxLen := by
  obtain ⟨a0, len0, cap0, rfl⟩ := okWide_slice Tryd.underlying22 hv
  obtain ⟨fuel, hf⟩ := h
  rcases open_ints Tryd.underlying22 Tryd.underlying5 (by kernel_rfl) hf with ⟨hcs, _⟩ | ⟨x, l, c, zs, hcs, _, hl, hm, hz, _, hcell, hwz⟩
  · simp [Value.cells] at hcs
    obtain ⟨rfl, rfl, rfl⟩ := hcs
    exact ⟨[], .inl ⟨rfl, rfl⟩, fun x hx => by simp at hx, by simp⟩
  · simp [Value.cells] at hcs
    obtain ⟨rfl, rfl, rfl⟩ := hcs
    have hz' : zs.length = cap0 := by simpa using hz
    have hs := spot_none hv
    obtain ⟨g, o, sp⟩ := x
    dsimp only at hs
    subst hs
    have hlen : (zs.take len0).length = len0 := by simp; omega
    refine ⟨zs.take len0, .inr ⟨g, o, cap0, by rw [hlen], by omega, fun i hi => ?_⟩, fun y hy => wf_u8 (hwz y (List.mem_of_mem_take hy)), by simp; omega⟩
    have hadd : (⟨g, o, none⟩ : Addr).add i = ⟨g, o + i, none⟩ := by unfold Addr.add; split <;> simp_all
    have hi2 : i < len0 := by omega
    have := hcell i (by omega)
    rw [hadd] at this
    rw [this]
    simp [List.getD, hi2]
end Go.Proofs.YtimajdbgeibalaaDoor
