/- Own texts, packed: Q41. -/
import Derived.Test.YtboofamenpcnhaaGreatDoorCards
import Derived.Test.YtboofamenpcnhaaGreatDoorTie
import Derived.Test.YtboofamenpcnhaaGreatDoorV38
import Derived.WalkKit
import Derived.ProofKit
import Derived.OpenShut
import Derived.ShutString
import Derived.ChangeOld
import Derived.Below
import Derived.Deep.DeepHandedRow
import Derived.Lib.LaidTab
import Derived.Stop.LaidErr
namespace Go.Proofs.YtboofamenpcnhaaGreatDoor
open Go.ChangeShapes Go.WideShapes Go.ChangeAt Go.RowKit
set_option linter.unusedVariables false
set_option maxRecDepth 100000
theorem gFirst : Tryz.prog.globalNamed "interleaf/stamp.first" = some 0 := by kernel_rfl
theorem gRoots : Tryz.prog.globalNamed "interleaf/stamp.roots" = some 2 := by kernel_rfl
theorem gHalves : Tryz.prog.globalNamed "interleaf/check.halves" = some 3 := by kernel_rfl
theorem gFirstT : (Tryz.prog.globals[0]?).map (·.type) = some 114 := by kernel_rfl
theorem gRootsT : (Tryz.prog.globals[2]?).map (·.type) = some 138 := by kernel_rfl
theorem gHalvesT : (Tryz.prog.globals[3]?).map (·.type) = some 166 := by kernel_rfl
theorem cells65 : Tryz.prog.cellsOf 65 = 1 := by kernel_rfl
theorem cells114 : Tryz.prog.cellsOf 114 = 8 := by kernel_rfl
theorem cells138 : Tryz.prog.cellsOf 138 = 64 := by kernel_rfl
theorem cells166 : Tryz.prog.cellsOf 166 = 16 := by kernel_rfl
theorem cells23 : Tryz.prog.cellsOf 23 = 32 := by kernel_rfl
theorem cells5 : Tryz.prog.cellsOf 5 = 1 := by kernel_rfl
def firstL : List Int := [1779033703, 3144134277, 1013904242, 2773480762, 1359893119, 2600822924, 528734635, 1541459225]
def firstE : Eight := ⟨1779033703, 3144134277, 1013904242, 2773480762, 1359893119, 2600822924, 528734635, 1541459225⟩
def rootsL : List Int := [1116352408, 1899447441, 3049323471, 3921009573, 961987163, 1508970993, 2453635748, 2870763221, 3624381080, 310598401, 607225278, 1426881987, 1925078388, 2162078206, 2614888103, 3248222580, 3835390401, 4022224774, 264347078, 604807628, 770255983, 1249150122, 1555081692, 1996064986, 2554220882, 2821834349, 2952996808, 3210313671, 3336571891, 3584528711, 113926993, 338241895, 666307205, 773529912, 1294757372, 1396182291, 1695183700, 1986661051, 2177026350, 2456956037, 2730485921, 2820302411, 3259730800, 3345764771, 3516065817, 3600352804, 4094571909, 275423344, 430227734, 506948616, 659060556, 883997877, 958139571, 1322822218, 1537002063, 1747873779, 1955562222, 2024104815, 2227730452, 2361852424, 2428436474, 2756734187, 3204031479, 3329325298]
def halvesL : List Int := [0, 274646895, 549293790, 820201905, 1098587580, 1361435347, 1640403810, 1905808397, 2197175160, 2460548119, 2722870694, 2987750089, 3280807620, 3553878443, 3811616794, 4084100981]
theorem halves_nat : ∀ i : Fin 16, halvesL.getD i.val 0 = ((halvesN.getD i.val 0 : Nat) : Int) := by decide +kernel
/-- What the row's list gives. -/
theorem tb_of {W : World} (h : laidMetH Tryz.prog [("interleaf/check.halves", Rows.laid_interleaf_check_halves), ("interleaf/stamp.first", Rows.laid_interleaf_stamp_first), ("interleaf/stamp.roots", Rows.laid_interleaf_stamp_roots)] W) : Tb W firstE rootsL := by
  have h0 : Lib.TabIs Tryz.prog W "interleaf/check.halves" .u32 halvesL := Lib.tabIs_of_head (rest := [("interleaf/stamp.first", Rows.laid_interleaf_stamp_first), ("interleaf/stamp.roots", Rows.laid_interleaf_stamp_roots)]) gHalves gHalvesT Tryz.underlying166 Tryz.underlying65 cells65 cells166 h
  have h1 : Lib.TabIs Tryz.prog W "interleaf/stamp.first" .u32 firstL := Lib.tabIs_of_head (rest := [("interleaf/stamp.roots", Rows.laid_interleaf_stamp_roots)]) gFirst gFirstT Tryz.underlying114 Tryz.underlying65 cells65 cells114 (laidMet.tail h)
  have h2 : Lib.TabIs Tryz.prog W "interleaf/stamp.roots" .u32 rootsL := Lib.tabIs_of_head (rest := []) gRoots gRootsT Tryz.underlying138 Tryz.underlying65 cells65 cells138 (laidMet.tail (laidMet.tail h))
  have c0 : ∀ i, i < 16 → W.cell? ⟨3, i, none⟩ = some (.int .u32 (halvesL.getD i 0)) := fun i hi => h0.cell gHalves i hi
  have c2 : ∀ i, i < 64 → W.cell? ⟨2, i, none⟩ = some (.int .u32 (rootsL.getD i 0)) := fun i hi => h2.cell gRoots i hi
  refine ⟨⟨World.block_lt_of_cell? W ⟨3, 0, none⟩ (c0 0 (by decide)), fun i hi => by rw [c0 i hi, halves_nat ⟨i, hi⟩]⟩, ⟨rfl, World.block_lt_of_cell? W ⟨2, 0, none⟩ (c2 0 (by decide)), c2⟩, fun j v hv => ?_⟩
  have hj : j < 8 := (List.getElem?_eq_some_iff.1 hv).1
  rw [Nat.zero_add]
  have c1 : W.cell? ⟨0, j, none⟩ = some (.int .u32 (firstL.getD j 0)) := h1.cell gFirst j hj
  rw [c1, ← hv]
  match j, hj with
  | 0, _ => rfl
  | 1, _ => rfl
  | 2, _ => rfl
  | 3, _ => rfl
  | 4, _ => rfl
  | 5, _ => rfl
  | 6, _ => rfl
  | 7, _ => rfl
theorem okWide_array {P : Program} {w : World} {r : Reach} {base : Nat} {t e : TypeId} {n : Nat} {v : Value} (ht : P.underlying t = some (.array n e)) (h : Value.okWide P w r base t v) : ∃ cs, v = .agg cs ∧ cs.size = P.cellsOf t := by
  simp only [Value.okWide, ht] at h
  obtain ⟨cs, h1, h2, _⟩ := h
  exact ⟨cs, h1, h2⟩
/-- An argument that is an array of 32 bytes. -/
theorem open_key {H : Type} {enc : TypeId × Value → H} {w : World} {base b0 : Nat} {r : Reach} {spare : Nat → Bool} {held : Bool} {v : Value} {d : DataW H} {p : List MemPlace}
    (hv : Value.okWide Tryz.prog w r b0 23 v) (h : DataW.Trod enc Tryz.prog w base spare held 23 v d p) :
    ∃ ks : List Int, ks.length = 32 ∧ (∀ x ∈ ks, 0 ≤ x ∧ x < 256) ∧ v = .agg (ks.map (Value.int .u8)).toArray := by
  obtain ⟨cs, rfl, hs⟩ := okWide_array Tryz.underlying23 hv
  rw [cells23] at hs
  obtain ⟨fuel, hf⟩ := h
  obtain ⟨xs, m, rfl, hx, hl, hn, hall⟩ := DataW.trod_array Tryz.underlying23 hf
  have hcs : (Value.agg cs).cells.toList = cs.toList := by simp [Value.cells]
  rw [hcs] at hall hl
  have each : ∀ i, i < 32 → ∃ n, cs.toList[i]? = some (.int .u8 n) ∧ 0 ≤ n ∧ n < 256 := fun i hi => by
    have h1 := hall i hi
    obtain ⟨b, hb⟩ : ∃ b, xs[i]? = some b := ⟨xs[i]'(by omega), List.getElem?_eq_getElem (by omega)⟩
    rw [hb, cells5, Nat.mul_one] at h1
    obtain ⟨n, hc, _, hw⟩ := DataW.trod_int Tryz.underlying5 h1
    have h2 := congrArg (·[0]?) hc
    have hb2 : 0 ≤ n ∧ n ≤ 255 := by simpa [Lit.wf, IntKind.min, IntKind.max, IntKind.signed, IntKind.bits] using hw
    exact ⟨n, by simpa [List.getElem?_take, List.getElem?_drop] using h2, by omega, by omega⟩
  refine ⟨cs.toList.map intOf, by simp [hs], fun x hx => ?_, ?_⟩
  · obtain ⟨c, hc, rfl⟩ := List.mem_map.1 hx
    obtain ⟨i, hi, rfl⟩ := List.getElem_of_mem hc
    obtain ⟨n, hn1, hn2⟩ := each i (by simpa [hs] using hi)
    rw [List.getElem?_eq_getElem hi] at hn1
    rw [Option.some.inj hn1]; exact hn2
  · congr 1
    apply Array.ext'
    apply List.ext_getElem?
    intro i
    by_cases hi : i < 32
    · obtain ⟨n, hn1, _⟩ := each i hi
      simp only [List.map_map, List.getElem?_map, hn1]
      simp [intOf]
    · have h0 : cs.toList[i]? = none := List.getElem?_eq_none (by simp; omega)
      simp only [List.map_map, List.getElem?_map, h0]
      simp
/-- A world for the witnesses: the settled one, the tables as their initialisers lay them. -/
def setHalves : Obj → Obj
  | .cells _ t frozen => .cells (halvesL.map (Value.int .u32)).toArray t frozen
  | o => o
def setFirst : Obj → Obj
  | .cells _ t frozen => .cells (firstL.map (Value.int .u32)).toArray t frozen
  | o => o
def setRoots : Obj → Obj
  | .cells _ t frozen => .cells (rootsL.map (Value.int .u32)).toArray t frozen
  | o => o
noncomputable def laidWorld (os : Os) : World :=
  { World.holding Tryz.prog os ⟨#[], #[], []⟩ with heap := (((World.holding Tryz.prog os ⟨#[], #[], []⟩).heap.modify 0 setFirst).modify 2 setRoots).modify 3 setHalves }
def zeroKey : Value := .agg ((List.replicate 32 (0 : Int)).map (Value.int .u8)).toArray
def zeroData {H : Type} : DataW H := .agg ((List.replicate 32 (0 : Int)).map fun z => .lit (.int .u8 z))
end Go.Proofs.YtboofamenpcnhaaGreatDoor
