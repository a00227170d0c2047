/- Own contracts: what the laws of rules share. No statement is proved here. -/
import Derived.Test.YtifhnidcodhoeaaUi
namespace Go.Proofs.Ytifhnidcodhoeaa
set_option maxRecDepth 100000
open Go.RowKit
set_option linter.unusedVariables false
set_option linter.unusedSimpArgs false

theorem elsV_set : ∀ (l : List El) (o : El) (k : Nat), k < l.length → elsV (l.set k o) = (elsV l).take (k * 10) ++ o.vals ++ (elsV l).drop (k * 10 + 10) := by
  intro l o
  induction l with
  | nil => intro k hk; simp at hk
  | cons x l ih =>
    intro k hk
    have h1 := x.vlen
    cases k with
    | zero =>
      simp only [List.set_cons_zero, elsV, List.flatMap_cons, Nat.zero_mul, List.take_zero, List.nil_append, Nat.zero_add]
      rw [List.drop_append, List.drop_of_length_le (by omega), h1]
      simp
    | succ k =>
      have := ih k (by simpa using hk)
      simp only [List.set_cons_succ, elsV, List.flatMap_cons] at this ⊢
      rw [this, List.take_append, List.drop_append, h1, List.take_of_length_le (show x.vals.length ≤ (k + 1) * 10 by omega), List.drop_of_length_le (show x.vals.length ≤ (k + 1) * 10 + 10 by omega)]
      rw [show (k + 1) * 10 - 10 = k * 10 by omega, show (k + 1) * 10 + 10 - 10 = k * 10 + 10 by omega]
      simp
theorem elsV_split (C : List El) (i : Nat) (hi : i < C.length) : elsV C = (elsV C).take (i * 10) ++ (C.getD i el0).vals ++ (elsV C).drop (i * 10 + 10) := by
  have := elsV_set C (C.getD i el0) i hi
  rwa [show C.set i (C.getD i el0) = C by apply List.ext_getElem (by simp); intro j h1 h2; rw [List.getElem_set]; split; (rename_i h; subst h; simp [List.getD, hi]); rfl] at this
/-- A field of a row of one's own is written. -/
theorem own_set {w : World} {base g cap n : Nat} {C : List El} (h : w.ownsRow base 35 10 (.slice (some ⟨g, 0, none⟩) n cap) n (elsV C)) (hn : C.length = n) (i : Nat) (hi : i < n) (j : Nat) (hj : j < 10) (u : Value) (x : El) (hx : (C.getD i el0).vals.set j u = x.vals) :
    (w.setCell ⟨g, i * 10 + j, none⟩ u).ownsRow base 35 10 (.slice (some ⟨g, 0, none⟩) n cap) n (elsV (C.set i x)) ∧ w.frozen? ⟨g, i * 10 + j, none⟩ = false := by
  rcases h.2 with ⟨h1, _⟩ | ⟨g', cap', cur, h1, h2, h3, h4, h5, h6, h7⟩
  · cases h1
  · injection h1 with q1 q2 q3
    injection q1 with q1
    injection q1 with q1 _ _
    subst q1 q3
    refine ⟨⟨?_, .inr ⟨g, cap, cur.setIfInBounds (i * 10 + j) u, rfl, h2, heap_setCell_same w g (i * 10 + j) cur 35 _ h3, h4, h5, by simpa using h6, ?_⟩⟩, ?_⟩
    · rw [elsV_len, List.length_set, hn]; omega
    · have hl := elsV_len C
      rw [Array.toList_setIfInBounds, List.take_set, h7, elsV_set C _ i (by omega)]
      conv => lhs; arg 1; rw [elsV_split C i (by omega)]
      rw [List.set_append_left _ _ (by simp only [List.length_append, List.length_take, El.vlen]; omega), List.set_append_right _ _ (by simp only [List.length_take]; omega)]
      have e : i * 10 + j - ((elsV C).take (i * 10)).length = j := by rw [List.length_take]; omega
      rw [e, hx]
    · have : w.heap[g]? = some (.cells cur.toList.toArray 35 (0, 0)) := by simpa using h3
      exact frozen_of_row w g _ _ 35 this
/-- A chart in a row of the call's own. -/
def OwV (b : Nat) (w : World) (v : Value) (l : List El) : Prop := w.ownsRow b 35 10 v l.length (elsV l)
theorem OwV.row {b : Nat} {w : World} {v : Value} {l : List El} (h : OwV b w v l) : RowV w v l := own_rowV h
theorem OwV.form {b : Nat} {w : World} {v : Value} {l : List El} (h : OwV b w v l) : ∃ a c, v = .slice a l.length c := h.row.form
theorem OwV.turn {b : Nat} {w w' : World} {v : Value} {l : List El} {G : Nat → Prop} (h : OwV b w v l) (t : Turn G w w') (hn : ∀ q, v.ownBlock = some q → ¬ G q) : OwV b w' v l := own_rows_turn h t hn
theorem OwV.nil (b : Nat) (w : World) : OwV b w (.slice none 0 0) [] := World.ownsRow_nil _ _ _ _
/-- Where the row lies. -/
theorem OwV.at {b : Nat} {w : World} {a : Option Addr} {n c : Nat} {l : List El} (h : OwV b w (.slice a n c) l) (hn : l.length = n) (h0 : 0 < n) : ∃ g, a = some ⟨g, 0, none⟩ ∧ b ≤ g ∧ g < w.heap.size := by
  rcases h.2 with ⟨h1, h2⟩ | ⟨g, cap, cur, h1, h2, h3, _⟩
  · omega
  · injection h1 with q1 _ _
    exact ⟨g, q1, h2, (Array.getElem?_eq_some_iff.1 h3).1⟩
theorem el_build014 (i0 : Int) (i1 : Int) (s4 : ByteArray) (w : World) : (Instr.build 35 #[(0, .int .i64 i0), (1, .int .u8 i1), (4, .string s4)]).run Try.prog w = .ok (.agg (El.mk i0 i1 0 0 s4 0 0 ByteArray.empty ByteArray.empty ByteArray.empty).vals.toArray) w := by kernel_rfl
theorem exec_el014 (ev : Operand → Value) (op : Oper) (x0 x1 x4 : Operand) (i0 : Int) (i1 : Int) (s4 : ByteArray) (ho : op.op = .build 35 #[(0, x0), (1, x1), (4, x4)]) (h0 : ev x0 = .int .i64 i0) (h1 : ev x1 = .int .u8 i1) (h4 : ev x4 = .string s4) (w : World) : (execOp ev op).run Try.prog w = .ok (.value (.agg (El.mk i0 i1 0 0 s4 0 0 ByteArray.empty ByteArray.empty ByteArray.empty).vals.toArray)) w := by
  unfold execOp
  simp only [ho, List.map_toArray, List.map_cons, List.map_nil, h0, h1, h4, Sem.run_bind, Sem.run_pure, el_build014, Result.andThen_ok]
theorem el_build0142 (i0 : Int) (i1 : Int) (s4 : ByteArray) (i2 : Int) (w : World) : (Instr.build 35 #[(0, .int .i64 i0), (1, .int .u8 i1), (4, .string s4), (2, .int .i64 i2)]).run Try.prog w = .ok (.agg (El.mk i0 i1 i2 0 s4 0 0 ByteArray.empty ByteArray.empty ByteArray.empty).vals.toArray) w := by kernel_rfl
theorem exec_el0142 (ev : Operand → Value) (op : Oper) (x0 x1 x4 x2 : Operand) (i0 : Int) (i1 : Int) (s4 : ByteArray) (i2 : Int) (ho : op.op = .build 35 #[(0, x0), (1, x1), (4, x4), (2, x2)]) (h0 : ev x0 = .int .i64 i0) (h1 : ev x1 = .int .u8 i1) (h4 : ev x4 = .string s4) (h2 : ev x2 = .int .i64 i2) (w : World) : (execOp ev op).run Try.prog w = .ok (.value (.agg (El.mk i0 i1 i2 0 s4 0 0 ByteArray.empty ByteArray.empty ByteArray.empty).vals.toArray)) w := by
  unfold execOp
  simp only [ho, List.map_toArray, List.map_cons, List.map_nil, h0, h1, h4, h2, Sem.run_bind, Sem.run_pure, el_build0142, Result.andThen_ok]
theorem el_build01 (i0 : Int) (i1 : Int) (w : World) : (Instr.build 35 #[(0, .int .i64 i0), (1, .int .u8 i1)]).run Try.prog w = .ok (.agg (El.mk i0 i1 0 0 ByteArray.empty 0 0 ByteArray.empty ByteArray.empty ByteArray.empty).vals.toArray) w := by kernel_rfl
theorem exec_el01 (ev : Operand → Value) (op : Oper) (x0 x1 : Operand) (i0 : Int) (i1 : Int) (ho : op.op = .build 35 #[(0, x0), (1, x1)]) (h0 : ev x0 = .int .i64 i0) (h1 : ev x1 = .int .u8 i1) (w : World) : (execOp ev op).run Try.prog w = .ok (.value (.agg (El.mk i0 i1 0 0 ByteArray.empty 0 0 ByteArray.empty ByteArray.empty ByteArray.empty).vals.toArray)) w := by
  unfold execOp
  simp only [ho, List.map_toArray, List.map_cons, List.map_nil, h0, h1, Sem.run_bind, Sem.run_pure, el_build01, Result.andThen_ok]
theorem el_build01567 (i0 : Int) (i1 : Int) (i5 : Int) (i6 : Int) (s7 : ByteArray) (w : World) : (Instr.build 35 #[(0, .int .i64 i0), (1, .int .u8 i1), (5, .int .i64 i5), (6, .int .i64 i6), (7, .string s7)]).run Try.prog w = .ok (.agg (El.mk i0 i1 0 0 ByteArray.empty i5 i6 s7 ByteArray.empty ByteArray.empty).vals.toArray) w := by kernel_rfl
theorem exec_el01567 (ev : Operand → Value) (op : Oper) (x0 x1 x5 x6 x7 : Operand) (i0 : Int) (i1 : Int) (i5 : Int) (i6 : Int) (s7 : ByteArray) (ho : op.op = .build 35 #[(0, x0), (1, x1), (5, x5), (6, x6), (7, x7)]) (h0 : ev x0 = .int .i64 i0) (h1 : ev x1 = .int .u8 i1) (h5 : ev x5 = .int .i64 i5) (h6 : ev x6 = .int .i64 i6) (h7 : ev x7 = .string s7) (w : World) : (execOp ev op).run Try.prog w = .ok (.value (.agg (El.mk i0 i1 0 0 ByteArray.empty i5 i6 s7 ByteArray.empty ByteArray.empty).vals.toArray)) w := by
  unfold execOp
  simp only [ho, List.map_toArray, List.map_cons, List.map_nil, h0, h1, h5, h6, h7, Sem.run_bind, Sem.run_pure, el_build01567, Result.andThen_ok]
theorem el_build0156 (i0 : Int) (i1 : Int) (i5 : Int) (i6 : Int) (w : World) : (Instr.build 35 #[(0, .int .i64 i0), (1, .int .u8 i1), (5, .int .i64 i5), (6, .int .i64 i6)]).run Try.prog w = .ok (.agg (El.mk i0 i1 0 0 ByteArray.empty i5 i6 ByteArray.empty ByteArray.empty ByteArray.empty).vals.toArray) w := by kernel_rfl
theorem exec_el0156 (ev : Operand → Value) (op : Oper) (x0 x1 x5 x6 : Operand) (i0 : Int) (i1 : Int) (i5 : Int) (i6 : Int) (ho : op.op = .build 35 #[(0, x0), (1, x1), (5, x5), (6, x6)]) (h0 : ev x0 = .int .i64 i0) (h1 : ev x1 = .int .u8 i1) (h5 : ev x5 = .int .i64 i5) (h6 : ev x6 = .int .i64 i6) (w : World) : (execOp ev op).run Try.prog w = .ok (.value (.agg (El.mk i0 i1 0 0 ByteArray.empty i5 i6 ByteArray.empty ByteArray.empty ByteArray.empty).vals.toArray)) w := by
  unfold execOp
  simp only [ho, List.map_toArray, List.map_cons, List.map_nil, h0, h1, h5, h6, Sem.run_bind, Sem.run_pure, el_build0156, Result.andThen_ok]
theorem el_build0124 (i0 : Int) (i1 : Int) (i2 : Int) (s4 : ByteArray) (w : World) : (Instr.build 35 #[(0, .int .i64 i0), (1, .int .u8 i1), (2, .int .i64 i2), (4, .string s4)]).run Try.prog w = .ok (.agg (El.mk i0 i1 i2 0 s4 0 0 ByteArray.empty ByteArray.empty ByteArray.empty).vals.toArray) w := by kernel_rfl
theorem exec_el0124 (ev : Operand → Value) (op : Oper) (x0 x1 x2 x4 : Operand) (i0 : Int) (i1 : Int) (i2 : Int) (s4 : ByteArray) (ho : op.op = .build 35 #[(0, x0), (1, x1), (2, x2), (4, x4)]) (h0 : ev x0 = .int .i64 i0) (h1 : ev x1 = .int .u8 i1) (h2 : ev x2 = .int .i64 i2) (h4 : ev x4 = .string s4) (w : World) : (execOp ev op).run Try.prog w = .ok (.value (.agg (El.mk i0 i1 i2 0 s4 0 0 ByteArray.empty ByteArray.empty ByteArray.empty).vals.toArray)) w := by
  unfold execOp
  simp only [ho, List.map_toArray, List.map_cons, List.map_nil, h0, h1, h2, h4, Sem.run_bind, Sem.run_pure, el_build0124, Result.andThen_ok]
theorem el_build012 (i0 : Int) (i1 : Int) (i2 : Int) (w : World) : (Instr.build 35 #[(0, .int .i64 i0), (1, .int .u8 i1), (2, .int .i64 i2)]).run Try.prog w = .ok (.agg (El.mk i0 i1 i2 0 ByteArray.empty 0 0 ByteArray.empty ByteArray.empty ByteArray.empty).vals.toArray) w := by kernel_rfl
theorem exec_el012 (ev : Operand → Value) (op : Oper) (x0 x1 x2 : Operand) (i0 : Int) (i1 : Int) (i2 : Int) (ho : op.op = .build 35 #[(0, x0), (1, x1), (2, x2)]) (h0 : ev x0 = .int .i64 i0) (h1 : ev x1 = .int .u8 i1) (h2 : ev x2 = .int .i64 i2) (w : World) : (execOp ev op).run Try.prog w = .ok (.value (.agg (El.mk i0 i1 i2 0 ByteArray.empty 0 0 ByteArray.empty ByteArray.empty ByteArray.empty).vals.toArray)) w := by
  unfold execOp
  simp only [ho, List.map_toArray, List.map_cons, List.map_nil, h0, h1, h2, Sem.run_bind, Sem.run_pure, el_build012, Result.andThen_ok]
theorem exec_el (ev : Operand → Value) (op : Oper) (ho : op.op = .build 35 #[]) (w : World) : (execOp ev op).run Try.prog w = .ok (.value (.agg el0.vals.toArray)) w := by
  unfold execOp
  simp only [ho, List.map_toArray, List.map_nil, Sem.run_bind, Sem.run_pure, el_build0, Result.andThen_ok]
theorem build_els2 (x0 x1 : El) (w : World) : (Instr.buildSlice 23 2 #[(0, .agg x0.vals.toArray), (1, .agg x1.vals.toArray)]).run Try.prog w = .ok (.slice (some ⟨w.heap.size, 0, none⟩) 2 2) (w.alloc (.cells (elsV [x0, x1]).toArray 35)) := by
  obtain ⟨i0, hi, hz0, hz1, hz2⟩ := info_parts el_infop
  refine run_buildSlice (P := Try.prog) w 23 35 2 _ _ i0 _ Try.underlying23 hi hz0 (by rw [hz1]; decide) (by rw [hz1]; decide) ?_
  rw [hz1]
  kernel_rfl
theorem exec_els2 (ev : Operand → Value) (op : Oper) (y0 y1 : Operand) (ho : op.op = .buildSlice 23 2 #[(0, y0), (1, y1)]) (x0 x1 : El) (h0 : ev y0 = .agg x0.vals.toArray) (h1 : ev y1 = .agg x1.vals.toArray) (w : World) : (execOp ev op).run Try.prog w = .ok (.value (.slice (some ⟨w.heap.size, 0, none⟩) 2 2)) (w.alloc (.cells (elsV [x0, x1]).toArray 35)) := by
  unfold execOp
  simp only [ho, List.map_toArray, List.map_cons, List.map_nil, h0, h1, Sem.run_bind, Sem.run_pure, build_els2, Result.andThen_ok]
theorem build_els3 (x0 x1 x2 : El) (w : World) : (Instr.buildSlice 23 3 #[(0, .agg x0.vals.toArray), (1, .agg x1.vals.toArray), (2, .agg x2.vals.toArray)]).run Try.prog w = .ok (.slice (some ⟨w.heap.size, 0, none⟩) 3 3) (w.alloc (.cells (elsV [x0, x1, x2]).toArray 35)) := by
  obtain ⟨i0, hi, hz0, hz1, hz2⟩ := info_parts el_infop
  refine run_buildSlice (P := Try.prog) w 23 35 3 _ _ i0 _ Try.underlying23 hi hz0 (by rw [hz1]; decide) (by rw [hz1]; decide) ?_
  rw [hz1]
  kernel_rfl
theorem exec_els3 (ev : Operand → Value) (op : Oper) (y0 y1 y2 : Operand) (ho : op.op = .buildSlice 23 3 #[(0, y0), (1, y1), (2, y2)]) (x0 x1 x2 : El) (h0 : ev y0 = .agg x0.vals.toArray) (h1 : ev y1 = .agg x1.vals.toArray) (h2 : ev y2 = .agg x2.vals.toArray) (w : World) : (execOp ev op).run Try.prog w = .ok (.value (.slice (some ⟨w.heap.size, 0, none⟩) 3 3)) (w.alloc (.cells (elsV [x0, x1, x2]).toArray 35)) := by
  unfold execOp
  simp only [ho, List.map_toArray, List.map_cons, List.map_nil, h0, h1, h2, Sem.run_bind, Sem.run_pure, build_els3, Result.andThen_ok]
theorem build_els4 (x0 x1 x2 x3 : El) (w : World) : (Instr.buildSlice 23 4 #[(0, .agg x0.vals.toArray), (1, .agg x1.vals.toArray), (2, .agg x2.vals.toArray), (3, .agg x3.vals.toArray)]).run Try.prog w = .ok (.slice (some ⟨w.heap.size, 0, none⟩) 4 4) (w.alloc (.cells (elsV [x0, x1, x2, x3]).toArray 35)) := by
  obtain ⟨i0, hi, hz0, hz1, hz2⟩ := info_parts el_infop
  refine run_buildSlice (P := Try.prog) w 23 35 4 _ _ i0 _ Try.underlying23 hi hz0 (by rw [hz1]; decide) (by rw [hz1]; decide) ?_
  rw [hz1]
  kernel_rfl
theorem exec_els4 (ev : Operand → Value) (op : Oper) (y0 y1 y2 y3 : Operand) (ho : op.op = .buildSlice 23 4 #[(0, y0), (1, y1), (2, y2), (3, y3)]) (x0 x1 x2 x3 : El) (h0 : ev y0 = .agg x0.vals.toArray) (h1 : ev y1 = .agg x1.vals.toArray) (h2 : ev y2 = .agg x2.vals.toArray) (h3 : ev y3 = .agg x3.vals.toArray) (w : World) : (execOp ev op).run Try.prog w = .ok (.value (.slice (some ⟨w.heap.size, 0, none⟩) 4 4)) (w.alloc (.cells (elsV [x0, x1, x2, x3]).toArray 35)) := by
  unfold execOp
  simp only [ho, List.map_toArray, List.map_cons, List.map_nil, h0, h1, h2, h3, Sem.run_bind, Sem.run_pure, build_els4, Result.andThen_ok]
theorem own_alloc (w : World) (l : List El) (hl : l.length ≤ 1000) : OwV w.heap.size (w.alloc (.cells (elsV l).toArray 35)) (.slice (some ⟨w.heap.size, 0, none⟩) l.length l.length) l := by
  refine ⟨by rw [elsV_len]; omega, .inr ⟨w.heap.size, l.length, _, rfl, Nat.le_refl _, heap_alloc_new w _, Nat.le_refl _, by unfold maxLen; omega, by simp [elsV_len, Nat.mul_comm], ?_⟩⟩
  have h := elsV_len l
  rw [List.take_of_length_le (by simp; omega)]
theorem turn_alloc (w : World) (T : TypeId) (cs : List Value) : Turn (fun _ => False) w (w.alloc (.cells cs.toArray T)) := (box_alloc w T cs).turn
theorem run_agg3 (w : World) : (isAgg 3).run Try.prog w = .ok false w := by kernel_rfl
theorem fv_fields : Try.prog.fieldsOf 26 = #[⟨"Rule", 3, 0, false, "", "", 0⟩, ⟨"ID", 3, 1, false, "", "", 8⟩] := by kernel_rfl
theorem fpart (t : TypeId) (ha : ∀ w, (isAgg t).run Try.prog w = .ok false w) (a b : Int) (k : Nat) (v : Value) (hk : (fv a b)[k]? = some v) (w : World) : (part t (fv a b).toArray k).run Try.prog w = .ok v w := by
  unfold part
  simp [Sem.run_bind, ha, hk]
theorem run_eql_fv (a1 a2 b1 b2 : Int) (w : World) : (binOp .eql 26 (.agg (fv a1 b1).toArray) (.agg (fv a2 b2).toArray)).run Try.prog w = .ok (.bool (decide (a1 = a2 ∧ b1 = b2))) w := by
  have hu : Try.prog.underlying 26 = some (.struct (Try.prog.fieldsOf 26)) := by rw [fv_fields]; kernel_rfl
  have main : (Op.equalIn (9999 + 1) 26 (.agg (fv a1 b1).toArray) (.agg (fv a2 b2).toArray)).run Try.prog w = .ok (decide (a1 = a2 ∧ b1 = b2)) w := by
    rw [run_equalIn_struct w 9999 26 _ _ hu (by kernel_rfl), fv_fields]
    have eI := run_equalIn_int (P := Try.prog) w 9998 3 .i64 .i64 a1 a2 Try.underlying3
    have eS := run_equalIn_int (P := Try.prog) w 9998 3 .i64 .i64 b1 b2 Try.underlying3
    simp only [Op.eqFields, Sem.run_bind, Sem.run_ite, fpart 3 run_agg3 a1 b1 0 _ rfl, fpart 3 run_agg3 a2 b2 0 _ rfl, fpart 3 run_agg3 a1 b1 1 _ rfl, fpart 3 run_agg3 a2 b2 1 _ rfl, Result.andThen_ok, eI, eS]
    by_cases h0 : a1 = a2
    · by_cases h1 : b1 = b2
      · simp [h0, h1]
      · simp [h0, h1]
    · simp [h0]
  rw [run_eql_struct]
  have := main
  simp only [Nat.reduceAdd] at this
  rw [this]
  rfl
theorem exec_eql_fv (ev : Operand → Value) (op : Oper) {x y : Operand} (ho : op.op = .binOp .eql 26 x y 26) (a1 a2 b1 b2 : Int) (w : World) (h1 : ev x = .agg (fv a1 b1).toArray) (h2 : ev y = .agg (fv a2 b2).toArray) : (execOp ev op).run Try.prog w = .ok (.value (.bool (decide (a1 = a2 ∧ b1 = b2)))) w := by
  have hg : (eqGuard .eql 26 x y (.agg (fv a1 b1).toArray) (.agg (fv a2 b2).toArray)).run Try.prog w = .ok () w := by simp [eqGuard]
  unfold execOp
  simp only [ho, h1, h2, Sem.run_bind, run_eql_fv, hg, Result.andThen_ok, Sem.run_pure]
theorem exec_eql_fv1 (ev : Operand → Value) (op : Oper) {x y : Operand} (ho : op.op = .binOp .eql 26 x y 26) (a b : Int) (w : World) (h1 : ev x = .agg (fv a b).toArray) (h2 : ev y = .agg (fv a b).toArray) : (execOp ev op).run Try.prog w = .ok (.value (.bool true)) w := by
  rw [exec_eql_fv ev op ho a a b b w h1 h2, decide_eq_true (show a = a ∧ b = b from ⟨rfl, rfl⟩)]
def elR : El := El.mk 1 2 0 0 ({ data := #[114] } : ByteArray) 0 0 ByteArray.empty ByteArray.empty ByteArray.empty
theorem check_elR : checkE [elR] = (4, 1) := by decide +kernel
theorem check_nil : checkE [] = (0, 0) := by decide +kernel
set_option maxHeartbeats 4000000 in
theorem awake_any (w : World) : Calls Try.prog 9 #[] w fun e w' => e = .returned (.bool true) ∧ Turn (fun _ => False) w w' := by
  have hb1 := box_alloc w 35 elR.vals
  have hrow := one_rowV (w := w) elR
  obtain ⟨G, hG⟩ : ∃ G, w.heap.size = G := ⟨_, rfl⟩
  obtain ⟨w1, hw1⟩ : ∃ w1, w.alloc (.cells elR.vals.toArray 35) = w1 := ⟨_, rfl⟩
  have hbl : ∀ ev op, op.op = .buildSlice 23 1 #[(0, .tmp 3)] → ev (.tmp 3) = .agg elR.vals.toArray → (execOp ev op).run Try.prog w = .ok (.value (.slice (some ⟨G, 0, none⟩) 1 1)) w1 := fun ev op ho hy => by rw [← hw1, ← hG]; exact exec_build_one ev op _ 23 Try.underlying23 ho elR hy w
  rw [hw1] at hb1 hrow
  rw [hG] at hrow
  have HBL := Lib.hid hbl
  have T1 := Lib.hid hb1.turn
  have HROW := Lib.hid hrow
  clear hb1 hrow hG hw1 hbl
  go_enter Try.func9, Try.ntmps9
  go_wp2_with (with_reducible (show wpList _ _ _ (Oper.mk (some 3) (.build 35 _) _ _ _ _ :: _) _ _); refine still ?_)
  refine list_exec rfl _ _ (exec_el014 _ _ _ _ _ 1 2 { data := #[114] } rfl rfl rfl rfl _) ?_
  go_wp2_with (with_reducible (show wpList _ _ _ (Oper.mk (some 4) (.buildSlice 23 _ _) _ _ _ _ :: _) _ _); refine still ?_)
  refine list_exec rfl _ _ (HBL.out _ _ rfl rfl) ?_
  go_wp2_with fail
  refine (rcheck_any w1 _ [elR] HROW.out (by decide)).mono ?_
  rw [check_elR]
  rintro r w2 ⟨rfl, t2⟩
  have T2 := Lib.hid (T1.out.trans t2 (fun _ _ => id))
  clear t2
  obtain ⟨B, hB⟩ : ∃ B, w2.heap.size = B := ⟨_, rfl⟩
  obtain ⟨wz, hwz⟩ : ∃ wz, w2.alloc (.cells (fv 0 0).toArray 26) = wz := ⟨_, rfl⟩
  have hx3 : ∀ ev op, op.op = .alloc 26 → (execOp ev op).run Try.prog w2 = .ok (.value (.pointer (some ⟨B, 0, none⟩))) wz := fun ev op ho => by rw [← hwz, ← hB]; exact exec_zero26 ev op ho _
  have hb3 := box_alloc w2 26 (fv 0 0)
  rw [hwz] at hb3
  have hh3 := hb3.heap
  rw [hB] at hh3
  have HX3 := Lib.hid hx3
  have HB3 := Lib.hid hb3
  have HH3 := Lib.hid hh3
  have HE3 := Lib.hid hB
  clear hb3 hB hwz hx3 hh3
  go_wp2_with (with_reducible (show wpList _ _ _ (Oper.mk (some 1) (.alloc 26) _ _ _ _ :: _) _ _); refine still ?_)
  refine list_exec rfl _ _ (HX3.out _ _ rfl) ?_
  go_wp2_with (with_reducible (show wpList _ _ _ (Oper.mk none (.store 26 (.tmp 1) (.tmp 5)) _ _ _ _ :: _) _ _); refine still ?_)
  refine list_put wz B 26 (fv 0 0) (fv 4 1) HH3.out rfl (fv_one _ _) fv_info rfl (.tmp 1) (.tmp 5) rfl rfl rfl (fun w3 hw3 tw3 => ?_)
  have Hw3 := Lib.hid (range_of hw3)
  have Uw3 := Lib.hid (HB3.out.turn.trans tw3 (fun q hq e => by have := HE3.out; omega))
  have Zw3 := Lib.hid (show B < w3.heap.size from (Array.getElem?_eq_some_iff.1 hw3).1)
  clear hw3 tw3
  have T3 := Lib.hid (T2.out.trans Uw3.out (fun _ _ => id))
  go_wp2_with fail
  refine (rcheck_any w3 _ [] (.inl ⟨rfl, rfl⟩) (by decide)).mono ?_
  rw [check_nil]
  rintro r w4 ⟨rfl, t4⟩
  have H34 := Lib.hid (rangeAt_turn Hw3.out t4 id)
  have T4 := Lib.hid (T3.out.trans t4 (fun _ _ => id))
  clear t4
  obtain ⟨D, hD⟩ : ∃ B, w4.heap.size = B := ⟨_, rfl⟩
  obtain ⟨wy, hwy⟩ : ∃ wz, w4.alloc (.cells (fv 0 0).toArray 26) = wz := ⟨_, rfl⟩
  have hx5 : ∀ ev op, op.op = .alloc 26 → (execOp ev op).run Try.prog w4 = .ok (.value (.pointer (some ⟨D, 0, none⟩))) wy := fun ev op ho => by rw [← hwy, ← hD]; exact exec_zero26 ev op ho _
  have hb5 := box_alloc w4 26 (fv 0 0)
  rw [hwy] at hb5
  have hh5 := hb5.heap
  rw [hD] at hh5
  have HX5 := Lib.hid hx5
  have HB5 := Lib.hid hb5
  have HH5 := Lib.hid hh5
  have HE5 := Lib.hid hD
  clear hb5 hD hwy hx5 hh5
  go_wp2_with (with_reducible (show wpList _ _ _ (Oper.mk (some 2) (.alloc 26) _ _ _ _ :: _) _ _); refine still ?_)
  refine list_exec rfl _ _ (HX5.out _ _ rfl) ?_
  go_wp2_with (with_reducible (show wpList _ _ _ (Oper.mk none (.store 26 (.tmp 2) (.tmp 6)) _ _ _ _ :: _) _ _); refine still ?_)
  refine list_put wy D 26 (fv 0 0) (fv 0 0) HH5.out rfl (fv_one _ _) fv_info rfl (.tmp 2) (.tmp 6) rfl rfl rfl (fun w5 hw5 tw5 => ?_)
  have Hw5 := Lib.hid (range_of hw5)
  have Uw5 := Lib.hid (HB5.out.turn.trans tw5 (fun q hq e => by have := HE5.out; omega))
  have Zw5 := Lib.hid (show D < w5.heap.size from (Array.getElem?_eq_some_iff.1 hw5).1)
  clear hw5 tw5
  have T5 := Lib.hid (T4.out.trans Uw5.out (fun _ _ => id))
  have h1 := rangeAt_turn H34.out Uw5.out id
  have c0 : w5.cell? ⟨B, 0, none⟩ = some (.int .i64 4) := by have := h1 0 _ rfl; rwa [Nat.zero_add] at this
  have c1 : w5.cell? ⟨B, 1, none⟩ = some (.int .i64 1) := by have := h1 1 _ rfl; rwa [Nat.zero_add] at this
  have c2 : w5.cell? ⟨D, 0, none⟩ = some (.int .i64 0) := by have := Hw5.out 0 _ rfl; rwa [Nat.zero_add] at this
  clear h1
  go_wp2_with fail
  go_ret
  exact ⟨rfl, T5.out⟩

end Go.Proofs.Ytifhnidcodhoeaa
