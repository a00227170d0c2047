/- Own texts, packed: Laid. -/
import Derived.Test.YtnenkclihgeacaaDoorCards
import Derived.Test.YtnenkclihgeacaaDoorTie
import Derived.Test.YtnenkclihgeacaaDoorP18
import Derived.WalkKit
import Derived.ProofKit
import Derived.OpenShut
import Derived.ShutString
import Derived.ChangeOld
import Derived.Below
import Derived.Deep.DeepHandedRow
import Derived.Lib.LaidTab
import Derived.Stop.LaidErr
/- Own: what every card of this seat shares: the table, the witness's world, bytes opened. No statement is proved here. -/
namespace Go.Proofs.YtnenkclihgeacaaDoor
open Go.ChangeShapes Go.WideShapes Go.ChangeAt Go.RowKit
set_option linter.unusedVariables false
set_option maxRecDepth 100000

theorem gHalves : Tryd.prog.globalNamed "interleaf/check.halves" = some 1 := by kernel_rfl
theorem gHalvesT : (Tryd.prog.globals[1]?).map (·.type) = some 133 := by kernel_rfl
theorem cells98 : Tryd.prog.cellsOf 98 = 1 := by kernel_rfl
theorem cells133 : Tryd.prog.cellsOf 133 = 16 := by kernel_rfl
def halvesL : List Int := [0, 274646895, 549293790, 820201905, 1098587580, 1361435347, 1640403810, 1905808397, 2197175160, 2460548119, 2722870694, 2987750089, 3280807620, 3553878443, 3811616794, 4084100981]
theorem halves_nat : ∀ i : Fin 16, halvesL.getD i.val 0 = ((halvesN.getD i.val 0 : Nat) : Int) := by decide +kernel

/-- What the row's list gives. -/
theorem tab_of {W : World} (h : laidMetH Tryd.prog [("interleaf/check.halves", Rows.laid_interleaf_check_halves)] W) : Tab W := by
  have h1 : Lib.TabIs Tryd.prog W "interleaf/check.halves" .u32 halvesL := Lib.tabIs_of_head (rest := []) gHalves gHalvesT Tryd.underlying133 Tryd.underlying98 cells98 cells133 h
  have c1 : ∀ i, i < 16 → W.cell? ⟨1, i, none⟩ = some (.int .u32 (halvesL.getD i 0)) := fun i hi => h1.cell gHalves i hi
  refine ⟨World.block_lt_of_cell? W ⟨1, 0, none⟩ (c1 0 (by decide)), fun i hi => ?_⟩
  rw [c1 i hi, halves_nat ⟨i, hi⟩]

theorem cells30 : Tryd.prog.cellsOf 30 = 32 := by kernel_rfl
theorem cells5 : Tryd.prog.cellsOf 5 = 1 := by kernel_rfl
theorem okWide_array {P : Program} {w : World} {r : Reach} {base : Nat} {t e : TypeId} {n : Nat} {v : Value} (ht : P.underlying t = some (.array n e)) (h : Value.okWide P w r base t v) : ∃ cs, v = .agg cs ∧ cs.size = P.cellsOf t := by
  simp only [Value.okWide, ht] at h
  obtain ⟨cs, h1, h2, _⟩ := h
  exact ⟨cs, h1, h2⟩

/-- An argument that is an array of 32 bytes. -/
theorem open_key {H : Type} {enc : TypeId × Value → H} {w : World} {base b0 : Nat} {r : Reach} {spare : Nat → Bool} {held : Bool} {v : Value} {d : DataW H} {p : List MemPlace}
    (hv : Value.okWide Tryd.prog w r b0 30 v) (h : DataW.Trod enc Tryd.prog w base spare held 30 v d p) :
    ∃ ks : List Int, ks.length = 32 ∧ (∀ x ∈ ks, 0 ≤ x ∧ x < 256) ∧ v = .agg (ks.map (Value.int .u8)).toArray := by
  obtain ⟨cs, rfl, hs⟩ := okWide_array Tryd.underlying30 hv
  rw [cells30] at hs
  obtain ⟨fuel, hf⟩ := h
  obtain ⟨xs, m, rfl, hx, hl, hn, hall⟩ := DataW.trod_array Tryd.underlying30 hf
  have hcs : (Value.agg cs).cells.toList = cs.toList := by simp [Value.cells]
  rw [hcs] at hall hl
  have each : ∀ i, i < 32 → ∃ n, cs.toList[i]? = some (.int .u8 n) ∧ 0 ≤ n ∧ n < 256 := fun i hi => by
    have h1 := hall i hi
    obtain ⟨b, hb⟩ : ∃ b, xs[i]? = some b := ⟨xs[i]'(by omega), List.getElem?_eq_getElem (by omega)⟩
    rw [hb, cells5, Nat.mul_one] at h1
    obtain ⟨n, hc, _, hw⟩ := DataW.trod_int Tryd.underlying5 h1
    have h2 := congrArg (·[0]?) hc
    have hb2 : 0 ≤ n ∧ n ≤ 255 := by simpa [Lit.wf, IntKind.min, IntKind.max, IntKind.signed, IntKind.bits] using hw
    exact ⟨n, by simpa [List.getElem?_take, List.getElem?_drop] using h2, by omega, by omega⟩
  refine ⟨cs.toList.map intOf, by simp [hs], fun x hx => ?_, ?_⟩
  · obtain ⟨c, hc, rfl⟩ := List.mem_map.1 hx
    obtain ⟨i, hi, rfl⟩ := List.getElem_of_mem hc
    obtain ⟨n, hn1, hn2⟩ := each i (by simpa [hs] using hi)
    rw [List.getElem?_eq_getElem hi] at hn1
    rw [Option.some.inj hn1]; exact hn2
  · congr 1
    apply Array.ext'
    apply List.ext_getElem?
    intro i
    by_cases hi : i < 32
    · obtain ⟨n, hn1, _⟩ := each i hi
      simp only [List.map_map, List.getElem?_map, hn1]
      simp [intOf]
    · have h0 : cs.toList[i]? = none := List.getElem?_eq_none (by simp; omega)
      simp only [List.map_map, List.getElem?_map, h0]
      simp


/-- A world for the witnesses: the settled one, the table as its initialiser lays it. -/
def setHalves : Obj → Obj
  | .cells _ t frozen => .cells (halvesL.map (Value.int .u32)).toArray t frozen
  | o => o
noncomputable def laidWorld (os : Os) : World :=
  { World.holding Tryd.prog os ⟨#[], #[], []⟩ with heap := (World.holding Tryd.prog os ⟨#[], #[], []⟩).heap.modify 1 setHalves }
def zeroKey : Value := .agg ((List.replicate 32 (0 : Int)).map (Value.int .u8)).toArray
def zeroData {H : Type} : DataW H := .agg ((List.replicate 32 (0 : Int)).map fun z => .lit (.int .u8 z))
end Go.Proofs.YtnenkclihgeacaaDoor
