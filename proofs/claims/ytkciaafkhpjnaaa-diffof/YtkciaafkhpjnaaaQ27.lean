/- Own texts, packed: La. No statement is proved here. -/
import Derived.Test.YtkciaafkhpjnaaaQ20
import Derived.Test.YtkciaafkhpjnaaaQ26
import Derived.Test.YtkciaafkhpjnaaaQ00
import Derived.Test.YtkciaafkhpjnaaaQ08
namespace Go.Proofs.Ytkciaafkhpjnaaa
set_option maxRecDepth 100000
open Go.RowKit
set_option linter.unusedVariables false
set_option linter.unusedSimpArgs false

theorem same_eq (w : World) (v1 v2 : Value) (L : List El) (h1 : RowV w v1 L) (h2 : RowV w v2 L) (hb : L.length ≤ 1000) : Calls Try.prog 14 #[v1, v2] w fun e w' => e = .returned (.bool true) ∧ Turn (fun _ => False) w w' :=
  (same_any w v1 v2 L L h1 h2 ⟨by omega, by omega⟩).mono fun e w' ⟨he, t⟩ => ⟨by rw [he]; simp, t⟩
theorem apply_fst {l : List El} {xs : List Ed} (h : (applyE l xs).2.2 ≠ 0) : (applyE l xs).1 = [] := apply_nil (k := (applyE l xs).2.1) (e := (applyE l xs).2.2) rfl h
theorem build_eds2 (x0 x1 : Ed) (w : World) : (Instr.buildSlice 28 2 #[(0, .agg x0.vals.toArray), (1, .agg x1.vals.toArray)]).run Try.prog w = .ok (.slice (some ⟨w.heap.size, 0, none⟩) 2 2) (w.alloc (.cells (edsV [x0, x1]).toArray 53)) := by
  obtain ⟨i0, hi, hz0, hz1, hz2⟩ := info_parts ed_infop
  refine run_buildSlice (P := Try.prog) w 28 53 2 _ _ i0 _ Try.underlying28 hi hz0 (by rw [hz1]; decide) (by rw [hz1]; decide) ?_
  rw [hz1]
  kernel_rfl
theorem exec_eds2 (ev : Operand → Value) (op : Oper) (y0 y1 : Operand) (ho : op.op = .buildSlice 28 2 #[(0, y0), (1, y1)]) (x0 x1 : Ed) (h0 : ev y0 = .agg x0.vals.toArray) (h1 : ev y1 = .agg x1.vals.toArray) (w : World) : (execOp ev op).run Try.prog w = .ok (.value (.slice (some ⟨w.heap.size, 0, none⟩) 2 2)) (w.alloc (.cells (edsV [x0, x1]).toArray 53)) := by
  unfold execOp
  simp only [ho, List.map_toArray, List.map_cons, List.map_nil, h0, h1, Sem.run_bind, Sem.run_pure, build_eds2, Result.andThen_ok]
theorem own_alloc_ed (w : World) (l : List Ed) (hl : l.length ≤ 1000) : OwE w.heap.size (w.alloc (.cells (edsV l).toArray 53)) (.slice (some ⟨w.heap.size, 0, none⟩) l.length l.length) l := by
  refine ⟨by rw [edsV_len]; omega, .inr ⟨w.heap.size, l.length, _, rfl, Nat.le_refl _, heap_alloc_new w _, Nat.le_refl _, by unfold maxLen; omega, by simp [edsV_len, Nat.mul_comm], ?_⟩⟩
  have h := edsV_len l
  rw [List.take_of_length_le (by simp; omega)]
end Go.Proofs.Ytkciaafkhpjnaaa
