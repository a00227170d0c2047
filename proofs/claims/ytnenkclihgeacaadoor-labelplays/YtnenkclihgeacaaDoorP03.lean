/- Own texts, packed: JOpen. -/
import Derived.Test.YtnenkclihgeacaaDoorP01
import Derived.WalkKit
import Derived.ProofKit
import Derived.OpenShut
import Derived.ShutString
import Derived.ChangeOld
import Derived.Below
/- Own: arguments opened. No statement is proved here. -/
namespace Go.Proofs.YtnenkclihgeacaaDoor
set_option maxRecDepth 100000
open Go.ChangeShapes Go.WideShapes Go.ChangeAt Go.RowKit
set_option linter.unusedVariables false

theorem own : ownKnob Tryd.prog.godebug = none := by kernel_rfl
theorem laidOut : laidOutB Tryd.prog = true := by kernel_rfl
theorem wf_u8 {a : Int} (h : (Lit.int .u8 a).wf = true) : 0 ≤ a ∧ a < 256 := by
  have hh : 0 ≤ a ∧ a ≤ 255 := by simpa [Lit.wf, IntKind.min, IntKind.max, IntKind.signed, IntKind.bits] using h
  omega
theorem wf_i64 {a : Int} (h : (Lit.int .i64 a).wf = true) : -9223372036854775808 ≤ a ∧ a < 9223372036854775808 := by
  have hh : -9223372036854775808 ≤ a ∧ a ≤ 9223372036854775807 := by simpa [Lit.wf, IntKind.min, IntKind.max, IntKind.signed, IntKind.bits] using h
  omega
theorem src_of_row {w : World} {x : Addr} {len cap : Nat} {zs : List Int} (hl : len ≤ cap) (hz : zs.length = cap) (hc : ∀ i, i < zs.length → w.cell? (x.add i) = some (.int .u8 (zs.getD i 0))) :
    Src w (.slice (some x) len cap) (zs.take len) := by
  have hlen : (zs.take len).length = len := by simp; omega
  by_cases h0 : 0 < len
  · obtain ⟨b, off, rfl, hcell⟩ := ints_at hc (by omega)
    have hr : Reads w (.slice (some ⟨b, off, none⟩) len cap) (zs.take len) := by
      refine .inr ⟨b, off, cap, by rw [hlen], by omega, fun i hi => ?_⟩
      rw [hcell i (by omega)]
      simp [List.getD, show i < len by omega]
    exact .inl hr
  · obtain rfl : len = 0 := by omega
    exact .inr ⟨x, cap, rfl, by simp⟩
/-- An argument that is a slice of bytes. -/
theorem open_bytes {H : Type} {enc : TypeId × Value → H} {w : World} {base b0 : Nat} {r : Reach} {held : Bool} {v : Value} {d : DataW H} {p : List MemPlace}
    (hv : Value.okWide Tryd.prog w r b0 31 v) (h : DataW.Trod enc Tryd.prog w base (fun _ => true) held 31 v d p) :
    ∃ xs : List Int, Src w v xs ∧ BytesOk xs ∧ xs.length ≤ maxLen ∧ (∀ k, v.ownBlock = some k → 0 < xs.length → k < w.heap.size) := by
  obtain ⟨a0, len0, cap0, rfl⟩ := okWide_slice Tryd.underlying31 hv
  obtain ⟨fuel, hf⟩ := h
  rcases open_ints Tryd.underlying31 Tryd.underlying5 (by kernel_rfl) hf with ⟨hcs, _⟩ | ⟨x, l, c, zs, hcs, _, hl, hm, hz, _, hcell, hwz⟩
  · simp [Value.cells] at hcs
    obtain ⟨rfl, rfl, rfl⟩ := hcs
    exact ⟨[], .inl (.inl ⟨rfl, rfl⟩), fun x hx => by simp at hx, by simp, fun k _ h => by simp at h⟩
  · simp [Value.cells] at hcs
    obtain ⟨rfl, rfl, rfl⟩ := hcs
    have hs := src_of_row (w := w) (x := x) hl (by simpa using hz) hcell
    refine ⟨zs.take len0, hs, fun y hy => wf_u8 (hwz y (List.mem_of_mem_take hy)), by simp; omega, fun k hk hpos => ?_⟩
    obtain ⟨a, c, he, hc⟩ := src_any hs
    obtain ⟨_, g, o, rfl, hcc⟩ := hc hpos
    injection he with e1 e2 e3
    injection e1 with e1
    subst e1
    cases hk
    exact World.block_lt_of_cell? w _ (hcc 0 hpos)
end Go.Proofs.YtnenkclihgeacaaDoor
