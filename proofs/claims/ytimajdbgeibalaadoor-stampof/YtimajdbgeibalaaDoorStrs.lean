/- Own lemmas: strings as numbers; a string's bytes in a new row; an operation that a walk is handed. No statement is proved here. -/
import Derived.Test.YtimajdbgeibalaaDoorReadMath
import Derived.Lib.ConvBytes
namespace Go.Proofs.YtimajdbgeibalaaDoor
open Go.RowKit
set_option linter.unusedVariables false

theorem nums_of (s : ByteArray) : ∃ xs : List Int, strOfNums xs = s ∧ xs.length = s.size ∧ ∀ x ∈ xs, Byt x := by
  refine ⟨s.data.toList.map fun b => (b.toNat : Int), ?_, by rw [List.length_map, Array.length_toList]; rfl, fun x hx => ?_⟩
  · apply ByteArray.ext
    apply Array.ext'
    rw [strOfNums_data, List.map_map]
    conv => rhs; rw [← List.map_id s.data.toList]
    apply List.map_congr_left
    intro b _
    simp
  · obtain ⟨b, _, rfl⟩ := List.mem_map.1 hx
    have := b.toNat_lt
    exact ⟨by omega, by omega⟩
theorem nums_add (xs ys : List Int) : strOfNums xs ++ strOfNums ys = strOfNums (xs ++ ys) := by
  apply ByteArray.ext
  simp [strOfNums]

/-- An operation that is wanted, and whose outcome is known, in a plain region. -/
theorem wpList_exec_want {P : Program} {ops : Array Oper} {rest : List Oper} {op : Oper} {a : Act} {w : World} {Q : Exit → Act → World → Prop} (hw : Region.wanted op (yielded ops a.tmps) = true) (v : Value) (w' : World)
    (h : (execOp a.eval op).run P w = .ok (.value v) w') (h2 : wpList P ops Q rest (a.put op.dst v) w') : wpList P ops Q (op :: rest) a w := by
  unfold wpList
  rw [if_pos hw]
  refine .inl ?_
  unfold Oper.wp
  rw [h]
  exact h2

/-- '[]byte(s)': a new row. -/
theorem bytes_row (xs : List Int) (hb : ∀ x ∈ xs, Byt x) (w : World) : ∃ c W, (convert 9 22 (.string (strOfNums xs))).run Tryd.prog w = .ok (.slice (some ⟨w.heap.size, 0, none⟩) xs.length c) W ∧ Turn (fun _ => False) w W ∧ W.heap.size = w.heap.size + 1 ∧
    (∀ j, j < xs.length → W.cell? ⟨w.heap.size, j, none⟩ = some (.int .u8 (xs.getD j 0))) ∧ (∀ j, j < xs.length → W.frozen? ⟨w.heap.size, j, none⟩ = false) ∧ xs.length ≤ c := by
  have h := Lib.run_convert_string_bytes (P := Tryd.prog) w 9 22 5 (strOfNums xs) Tryd.underlying9 Tryd.underlying22 Tryd.underlying5
  rw [strOfNums_size] at h
  refine ⟨grownCap w xs.length 0 5, Lib.bytesWorld w 5 (strOfNums xs), h, ⟨rfl, rfl, rfl, by rw [Lib.bytesWorld_size]; omega, fun i hi _ => Lib.bytesWorld_at_old w 5 _ i hi⟩, Lib.bytesWorld_size w 5 _, fun j hj => ?_, fun j hj => ?_, ?_⟩
  rotate_left
  · have hsz : xs.length ≤ (Lib.bytesCells w 5 (strOfNums xs)).size := by
      have h1 : (strOfNums xs).data.size = xs.length := strOfNums_size xs
      simp only [Lib.bytesCells, Array.size_append, Array.size_map, h1]; omega
    have hlo : ¬ (Lib.bytesCells w 5 (strOfNums xs)).size ≤ j := by omega
    simp only [World.frozen?, Lib.bytesWorld_at_new]
    rw [decide_eq_false hlo]; rfl
  · exact grownCap_ge w _ _ _
  rw [Lib.bytesWorld_cell w 5 _ j (by rw [strOfNums_size]; exact hj), strOfNums_data]
  have hx := hb _ (getD_mem hj)
  have e : ((xs.map fun n => UInt8.ofNat n.toNat).getD j 0).toNat = (xs.getD j 0).toNat := by
    simp only [List.getD, List.getElem?_map, List.getElem?_eq_getElem hj, Option.map_some, Option.getD_some] at hx ⊢
    rw [UInt8.toNat_ofNat']
    obtain ⟨h0, h1⟩ := hx
    omega
  rw [e]
  obtain ⟨h0, h1⟩ := hx
  rw [Int.toNat_of_nonneg h0]
end Go.Proofs.YtimajdbgeibalaaDoor
