/- Own: what every card of this seat shares: the table, the witness's world, bytes opened. No statement is proved here. -/
import Derived.Test.YtckeackepolhdaaDoorCards
import Derived.Test.YtckeackepolhdaaDoorTie
import Derived.Test.YtckeackepolhdaaDoorOf
import Derived.WalkKit
import Derived.ProofKit
import Derived.OpenShut
import Derived.ShutString
import Derived.ChangeOld
import Derived.Below
import Derived.Deep.DeepHandedRow
import Derived.Lib.LaidTab
import Derived.Stop.LaidErr
namespace Go.Proofs.YtckeackepolhdaaDoor
open Go.ChangeShapes Go.WideShapes Go.ChangeAt Go.RowKit
set_option linter.unusedVariables false

theorem own : ownKnob Tryd.prog.godebug = none := by kernel_rfl
theorem laidOut : laidOutB Tryd.prog = true := by kernel_rfl
theorem gHalves : Tryd.prog.globalNamed "interleaf/check.halves" = some 0 := by kernel_rfl
theorem gHalvesT : (Tryd.prog.globals[0]?).map (·.type) = some 40 := by kernel_rfl
theorem cells24 : Tryd.prog.cellsOf 24 = 1 := by kernel_rfl
theorem cells40 : Tryd.prog.cellsOf 40 = 16 := by kernel_rfl
def halvesL : List Int := [0, 274646895, 549293790, 820201905, 1098587580, 1361435347, 1640403810, 1905808397, 2197175160, 2460548119, 2722870694, 2987750089, 3280807620, 3553878443, 3811616794, 4084100981]
theorem halves_nat : ∀ i : Fin 16, halvesL.getD i.val 0 = ((halvesN.getD i.val 0 : Nat) : Int) := by decide +kernel

/-- What the row's list gives. -/
theorem tab_of {W : World} (h : laidMetH Tryd.prog [("interleaf/check.halves", Rows.laid_interleaf_check_halves)] W) : Tab W := by
  have h1 : Lib.TabIs Tryd.prog W "interleaf/check.halves" .u32 halvesL := Lib.tabIs_of_head (rest := []) gHalves gHalvesT Tryd.underlying40 Tryd.underlying24 cells24 cells40 h
  have c1 : ∀ i, i < 16 → W.cell? ⟨0, i, none⟩ = some (.int .u32 (halvesL.getD i 0)) := fun i hi => h1.cell gHalves i hi
  refine ⟨World.block_lt_of_cell? W ⟨0, 0, none⟩ (c1 0 (by decide)), fun i hi => ?_⟩
  rw [c1 i hi, halves_nat ⟨i, hi⟩]

theorem wf_u8 {a : Int} (h : (Lit.int .u8 a).wf = true) : 0 ≤ a ∧ a < 256 := by
  have hh : 0 ≤ a ∧ a ≤ 255 := by simpa [Lit.wf, IntKind.min, IntKind.max, IntKind.signed, IntKind.bits] using h
  omega
theorem wf_u16 {a : Int} (h : (Lit.int .u16 a).wf = true) : 0 ≤ a ∧ a < 65536 := by
  have hh : 0 ≤ a ∧ a ≤ 65535 := by simpa [Lit.wf, IntKind.min, IntKind.max, IntKind.signed, IntKind.bits] using h
  omega
theorem wf_u32 {a : Int} (h : (Lit.int .u32 a).wf = true) : 0 ≤ a ∧ a < 4294967296 := by
  have hh : 0 ≤ a ∧ a ≤ 4294967295 := by simpa [Lit.wf, IntKind.min, IntKind.max, IntKind.signed, IntKind.bits] using h
  omega
theorem wf_i64 {a : Int} (h : (Lit.int .i64 a).wf = true) : -9223372036854775808 ≤ a ∧ a < 9223372036854775808 := by
  have hh : -9223372036854775808 ≤ a ∧ a ≤ 9223372036854775807 := by simpa [Lit.wf, IntKind.min, IntKind.max, IntKind.signed, IntKind.bits] using h
  omega

theorem src_of_row {w : World} {x : Addr} {len cap : Nat} {zs : List Int} (hl : len ≤ cap) (hz : zs.length = cap) (hc : ∀ i, i < zs.length → w.cell? (x.add i) = some (.int .u8 (zs.getD i 0))) :
    Src w (.slice (some x) len cap) (zs.take len) := by
  have hlen : (zs.take len).length = len := by simp; omega
  by_cases h0 : 0 < len
  · obtain ⟨b, off, rfl, hcell⟩ := ints_at hc (by omega)
    have hr : Reads w (.slice (some ⟨b, off, none⟩) len cap) (zs.take len) := by
      refine .inr ⟨b, off, cap, by rw [hlen], by omega, fun i hi => ?_⟩
      rw [hcell i (by omega)]
      simp [List.getD, show i < len by omega]
    exact .inl hr
  · obtain rfl : len = 0 := by omega
    exact .inr ⟨x, cap, rfl, by simp⟩

/-- An argument that is a slice of bytes. -/
theorem open_bytes {H : Type} {enc : TypeId × Value → H} {w : World} {base b0 : Nat} {r : Reach} {held : Bool} {v : Value} {d : DataW H} {p : List MemPlace}
    (hv : Value.okWide Tryd.prog w r b0 22 v) (h : DataW.Trod enc Tryd.prog w base (fun _ => true) held 22 v d p) :
    ∃ xs : List Int, Src w v xs ∧ BytesOk xs := by
  obtain ⟨a0, len0, cap0, rfl⟩ := okWide_slice Tryd.underlying22 hv
  obtain ⟨fuel, hf⟩ := h
  rcases open_ints Tryd.underlying22 Tryd.underlying5 (by kernel_rfl) hf with ⟨hcs, _⟩ | ⟨x, l, c, zs, hcs, _, hl, hm, hz, _, hcell, hwz⟩
  · simp [Value.cells] at hcs
    obtain ⟨rfl, rfl, rfl⟩ := hcs
    exact ⟨[], .inl (.inl ⟨rfl, rfl⟩), fun x hx => by simp at hx⟩
  · simp [Value.cells] at hcs
    obtain ⟨rfl, rfl, rfl⟩ := hcs
    exact ⟨zs.take len0, src_of_row hl (by simpa using hz) hcell, fun y hy => wf_u8 (hwz y (List.mem_of_mem_take hy))⟩

/-- A world for the witnesses: the settled one, the table as its initialiser lays it. -/
def setHalves : Obj → Obj
  | .cells _ t frozen => .cells (halvesL.map (Value.int .u32)).toArray t frozen
  | o => o
noncomputable def laidWorld (os : Os) : World :=
  { World.holding Tryd.prog os ⟨#[], #[], []⟩ with heap := (World.holding Tryd.prog os ⟨#[], #[], []⟩).heap.modify 0 setHalves }
end Go.Proofs.YtckeackepolhdaaDoor
