/- Own texts, packed: Q26. -/
import Derived.Test.YtboofamenpcnhaaGreatDoorV04
import Derived.WalkKit
import Derived.ProofKit
import Derived.OpenShut
import Derived.ShutString
import Derived.ChangeOld
import Derived.Below
namespace Go.Proofs.YtboofamenpcnhaaGreatDoor
set_option maxRecDepth 100000
open Go.ChangeShapes Go.WideShapes Go.ChangeAt Go.RowKit
set_option linter.unusedVariables false
theorem own : ownKnob Tryz.prog.godebug = none := by kernel_rfl
theorem laidOut : laidOutB Tryz.prog = true := by kernel_rfl
theorem wf_u8 {a : Int} (h : (Lit.int .u8 a).wf = true) : 0 ≤ a ∧ a < 256 := by
  have hh : 0 ≤ a ∧ a ≤ 255 := by simpa [Lit.wf, IntKind.min, IntKind.max, IntKind.signed, IntKind.bits] using h
  omega
theorem src_of_row {w : World} {x : Addr} {len cap : Nat} {zs : List Int} (hl : len ≤ cap) (hz : zs.length = cap) (hc : ∀ i, i < zs.length → w.cell? (x.add i) = some (.int .u8 (zs.getD i 0))) :
    Src w (.slice (some x) len cap) (zs.take len) := by
  have hlen : (zs.take len).length = len := by simp; omega
  by_cases h0 : 0 < len
  · obtain ⟨b, off, rfl, hcell⟩ := ints_at hc (by omega)
    have hr : Reads w (.slice (some ⟨b, off, none⟩) len cap) (zs.take len) := by
      refine .inr ⟨b, off, cap, by rw [hlen], by omega, fun i hi => ?_⟩
      rw [hcell i (by omega)]
      simp [List.getD, show i < len by omega]
    exact .inl hr
  · obtain rfl : len = 0 := by omega
    exact .inr ⟨x, cap, rfl, by simp⟩
end Go.Proofs.YtboofamenpcnhaaGreatDoor
