/- Own: what every card of this seat shares: the tables, the witness's world, an array of bytes opened. No statement is proved here. -/
import Derived.Test.YtimajdbgeibalaaDoorCards
import Derived.Test.YtimajdbgeibalaaDoorTie
import Derived.Test.YtimajdbgeibalaaDoorAwake
import Derived.WalkKit
import Derived.ProofKit
import Derived.OpenShut
import Derived.ShutString
import Derived.ChangeOld
import Derived.Below
import Derived.Deep.DeepHandedRow
import Derived.Lib.LaidTab
import Derived.Stop.LaidErr
namespace Go.Proofs.YtimajdbgeibalaaDoor
open Go.ChangeShapes Go.WideShapes Go.ChangeAt Go.RowKit
set_option linter.unusedVariables false

theorem own : ownKnob Tryd.prog.godebug = none := by kernel_rfl
theorem laidOut : laidOutB Tryd.prog = true := by kernel_rfl
theorem gFirst : Tryd.prog.globalNamed "interleaf/stamp.first" = some 0 := by kernel_rfl
theorem gRoots : Tryd.prog.globalNamed "interleaf/stamp.roots" = some 1 := by kernel_rfl
theorem gFirstT : (Tryd.prog.globals[0]?).map (·.type) = some 41 := by kernel_rfl
theorem gRootsT : (Tryd.prog.globals[1]?).map (·.type) = some 52 := by kernel_rfl
theorem cells39 : Tryd.prog.cellsOf 39 = 1 := by kernel_rfl
theorem cells41 : Tryd.prog.cellsOf 41 = 8 := by kernel_rfl
theorem cells52 : Tryd.prog.cellsOf 52 = 64 := by kernel_rfl
theorem cells24 : Tryd.prog.cellsOf 24 = 32 := by kernel_rfl
theorem cells5 : Tryd.prog.cellsOf 5 = 1 := by kernel_rfl
def firstL : List Int := [1779033703, 3144134277, 1013904242, 2773480762, 1359893119, 2600822924, 528734635, 1541459225]

/-- What the row's list gives. -/
theorem tables_of {W : World} (h : laidMetH Tryd.prog [("interleaf/stamp.first", Rows.laid_interleaf_stamp_first), ("interleaf/stamp.roots", Rows.laid_interleaf_stamp_roots)] W) : Tables W := by
  have h1 : Lib.TabIs Tryd.prog W "interleaf/stamp.first" .u32 firstL := Lib.tabIs_of_head (rest := [("interleaf/stamp.roots", Rows.laid_interleaf_stamp_roots)]) gFirst gFirstT Tryd.underlying41 Tryd.underlying39 cells39 cells41 h
  have h2 : Lib.TabIs Tryd.prog W "interleaf/stamp.roots" .u32 rootsL := Lib.tabIs_of_head (rest := []) gRoots gRootsT Tryd.underlying52 Tryd.underlying39 cells39 cells52 (laidMet.tail h)
  have c2 : ∀ i, i < 64 → W.cell? ⟨1, i, none⟩ = some (.int .u32 (rootsL.getD i 0)) := fun i hi => h2.cell gRoots i hi
  refine ⟨⟨rfl, World.block_lt_of_cell? W ⟨1, 0, none⟩ (c2 0 (by decide)), c2⟩, fun j v hv => ?_⟩
  have hj : j < 8 := (List.getElem?_eq_some_iff.1 hv).1
  rw [Nat.zero_add]
  have c1 : W.cell? ⟨0, j, none⟩ = some (.int .u32 (firstL.getD j 0)) := h1.cell gFirst j hj
  rw [c1, ← hv]
  match j, hj with
  | 0, _ => rfl
  | 1, _ => rfl
  | 2, _ => rfl
  | 3, _ => rfl
  | 4, _ => rfl
  | 5, _ => rfl
  | 6, _ => rfl
  | 7, _ => rfl

theorem okWide_array {P : Program} {w : World} {r : Reach} {base : Nat} {t e : TypeId} {n : Nat} {v : Value} (ht : P.underlying t = some (.array n e)) (h : Value.okWide P w r base t v) : ∃ cs, v = .agg cs ∧ cs.size = P.cellsOf t := by
  simp only [Value.okWide, ht] at h
  obtain ⟨cs, h1, h2, _⟩ := h
  exact ⟨cs, h1, h2⟩

/-- An argument that is an array of 32 bytes. -/
theorem open_key {H : Type} {enc : TypeId × Value → H} {w : World} {base b0 : Nat} {r : Reach} {spare : Nat → Bool} {held : Bool} {v : Value} {d : DataW H} {p : List MemPlace}
    (hv : Value.okWide Tryd.prog w r b0 24 v) (h : DataW.Trod enc Tryd.prog w base spare held 24 v d p) :
    ∃ ks : List Int, ks.length = 32 ∧ (∀ x ∈ ks, 0 ≤ x ∧ x < 256) ∧ v = .agg (ks.map (Value.int .u8)).toArray := by
  obtain ⟨cs, rfl, hs⟩ := okWide_array Tryd.underlying24 hv
  rw [cells24] at hs
  obtain ⟨fuel, hf⟩ := h
  obtain ⟨xs, m, rfl, hx, hl, hn, hall⟩ := DataW.trod_array Tryd.underlying24 hf
  have hcs : (Value.agg cs).cells.toList = cs.toList := by simp [Value.cells]
  rw [hcs] at hall hl
  have each : ∀ i, i < 32 → ∃ n, cs.toList[i]? = some (.int .u8 n) ∧ 0 ≤ n ∧ n < 256 := fun i hi => by
    have h1 := hall i hi
    obtain ⟨b, hb⟩ : ∃ b, xs[i]? = some b := ⟨xs[i]'(by omega), List.getElem?_eq_getElem (by omega)⟩
    rw [hb, cells5, Nat.mul_one] at h1
    obtain ⟨n, hc, _, hw⟩ := DataW.trod_int Tryd.underlying5 h1
    have h2 := congrArg (·[0]?) hc
    have hb2 : 0 ≤ n ∧ n ≤ 255 := by simpa [Lit.wf, IntKind.min, IntKind.max, IntKind.signed, IntKind.bits] using hw
    exact ⟨n, by simpa [List.getElem?_take, List.getElem?_drop] using h2, by omega, by omega⟩
  refine ⟨cs.toList.map intOf, by simp [hs], fun x hx => ?_, ?_⟩
  · obtain ⟨c, hc, rfl⟩ := List.mem_map.1 hx
    obtain ⟨i, hi, rfl⟩ := List.getElem_of_mem hc
    obtain ⟨n, hn1, hn2⟩ := each i (by simpa [hs] using hi)
    rw [List.getElem?_eq_getElem hi] at hn1
    rw [Option.some.inj hn1]; exact hn2
  · congr 1
    apply Array.ext'
    apply List.ext_getElem?
    intro i
    by_cases hi : i < 32
    · obtain ⟨n, hn1, _⟩ := each i hi
      simp only [List.map_map, List.getElem?_map, hn1]
      simp [intOf]
    · have h0 : cs.toList[i]? = none := List.getElem?_eq_none (by simp; omega)
      simp only [List.map_map, List.getElem?_map, h0]
      simp

/-- A world for the witnesses: the settled one, both tables as their initialisers lay them. -/
def setFirst : Obj → Obj
  | .cells _ t frozen => .cells (firstL.map (Value.int .u32)).toArray t frozen
  | o => o
def setRoots : Obj → Obj
  | .cells _ t frozen => .cells (rootsL.map (Value.int .u32)).toArray t frozen
  | o => o
noncomputable def laidWorld (os : Os) : World :=
  { World.holding Tryd.prog os ⟨#[], #[], []⟩ with heap := ((World.holding Tryd.prog os ⟨#[], #[], []⟩).heap.modify 0 setFirst).modify 1 setRoots }
def zeroKey : Value := .agg ((List.replicate 32 (0 : Int)).map (Value.int .u8)).toArray
def zeroData {H : Type} : DataW H := .agg ((List.replicate 32 (0 : Int)).map fun z => .lit (.int .u8 z))
end Go.Proofs.YtimajdbgeibalaaDoor
