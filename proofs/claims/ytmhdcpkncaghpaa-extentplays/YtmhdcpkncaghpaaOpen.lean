/- Own: arguments opened. No statement is proved here. -/
import Derived.Test.YtmhdcpkncaghpaaAwake
import Derived.WalkKit
import Derived.ProofKit
import Derived.OpenShut
import Derived.ShutString
import Derived.ChangeOld
import Derived.Below
namespace Go.Proofs.Ytmhdcpkncaghpaa
open Go.ChangeShapes Go.WideShapes Go.ChangeAt Go.RowKit
set_option linter.unusedVariables false

theorem own : ownKnob Try.prog.godebug = none := by kernel_rfl
theorem laidOut : laidOutB Try.prog = true := by kernel_rfl
theorem wf_u8 {a : Int} (h : (Lit.int .u8 a).wf = true) : 0 ≤ a ∧ a < 256 := by
  have hh : 0 ≤ a ∧ a ≤ 255 := by simpa [Lit.wf, IntKind.min, IntKind.max, IntKind.signed, IntKind.bits] using h
  omega
theorem wf_i64 {a : Int} (h : (Lit.int .i64 a).wf = true) : -9223372036854775808 ≤ a ∧ a < 9223372036854775808 := by
  have hh : -9223372036854775808 ≤ a ∧ a ≤ 9223372036854775807 := by simpa [Lit.wf, IntKind.min, IntKind.max, IntKind.signed, IntKind.bits] using h
  omega
/-- A slice that reads as these bytes. -/
def Bs (w : World) (v : Value) (xs : List Nat) : Prop := ∃ a c, v = .slice a xs.length c ∧ ∀ i, i < xs.length → ∃ b o, a = some ⟨b, o, none⟩ ∧ w.cell? ⟨b, o + i, none⟩ = some (.int .u8 ((xs.getD i 0 : Nat) : Int)) ∧ xs.getD i 0 < 256
theorem Bs.none {w w' : World} {v : Value} {xs : List Nat} (h : Bs w v xs) (T : Turn (fun _ => False) w w') : Bs w' v xs := by
  obtain ⟨a, c, e, h⟩ := h
  refine ⟨a, c, e, fun i hi => ?_⟩
  obtain ⟨b, o, e1, e2, e3⟩ := h i hi
  exact ⟨b, o, e1, (T.cell (p := ⟨b, o + i, _⟩) (World.block_lt_of_cell? w _ e2) id).trans e2, e3⟩
/-- An argument that is a slice of bytes. -/
theorem open_bytes {H : Type} {enc : TypeId × Value → H} {w : World} {base b0 : Nat} {r : Reach} {held : Bool} {v : Value} {d : DataW H} {p : List MemPlace}
    (hv : Value.okWide Try.prog w r b0 35 v) (h : DataW.Trod enc Try.prog w base (fun _ => true) held 35 v d p) :
    ∃ xs : List Nat, Bs w v xs ∧ xs.length ≤ maxLen := by
  obtain ⟨a0, len0, cap0, rfl⟩ := okWide_slice Try.underlying35 hv
  obtain ⟨fuel, hf⟩ := h
  rcases open_ints Try.underlying35 Try.underlying5 (by kernel_rfl) hf with ⟨hcs, _⟩ | ⟨x, l, c, zs, hcs, _, hl, hm, hz, _, hcell, hwz⟩
  · simp [Value.cells] at hcs
    obtain ⟨rfl, rfl, rfl⟩ := hcs
    exact ⟨[], ⟨_, _, rfl, fun i hi => by simp at hi⟩, by simp⟩
  · simp [Value.cells] at hcs
    obtain ⟨rfl, rfl, rfl⟩ := hcs
    have hz' : zs.length = cap0 := by simpa using hz
    refine ⟨(zs.take len0).map Int.toNat, ⟨some x, cap0, ?_, fun i hi => ?_⟩, by simp; omega⟩
    · congr 1; simp; omega
    · have hi' : i < len0 := by simp at hi; omega
      obtain ⟨b, off, rfl, hcc⟩ := ints_at hcell (by omega)
      have hw := wf_u8 (hwz (zs.getD i 0) (by rw [List.getD, List.getElem?_eq_getElem (by omega)]; exact List.getElem_mem _))
      have e : ((zs.take len0).map Int.toNat).getD i 0 = (zs.getD i 0).toNat := by
        simp [List.getD, hi', show i < zs.length by omega]
      refine ⟨b, off, rfl, ?_, by rw [e]; omega⟩
      rw [hcc i (by omega), e]
      congr 2
      omega
end Go.Proofs.Ytmhdcpkncaghpaa
