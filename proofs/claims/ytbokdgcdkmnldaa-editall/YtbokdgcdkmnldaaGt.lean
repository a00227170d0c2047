/- Own contracts: a field of an element. No statement is proved here. -/
import Derived.Test.YtbokdgcdkmnldaaRr
namespace Go.Proofs.Ytbokdgcdkmnldaa
set_option maxRecDepth 100000
open Go.RowKit
set_option linter.unusedVariables false
set_option linter.unusedSimpArgs false


def vl (n : Int) (s : ByteArray) : List Value := [.int .i64 n, .string s]
theorem vl_one (n : Int) (s : ByteArray) : ∀ v ∈ vl n s, v.oneCell' = true := fun v hv => by
  simp only [vl, List.mem_cons, List.not_mem_nil, or_false] at hv
  rcases hv with rfl | rfl <;> rfl
theorem vl_info : (Try.prog.info? 26).map (·.size) = some 2 := by kernel_rfl
def e0 : ByteArray := ByteArray.empty
theorem vl_zero (w : World) : (zeroValue 26).run Try.prog w = .ok (.agg (vl 0 e0).toArray) w := by kernel_rfl
theorem exec_zero37 (ev : Operand → Value) (op : Oper) (ho : op.op = .alloc 26) (w : World) : (execOp ev op).run Try.prog w = .ok (.value (.pointer (some ⟨w.heap.size, 0, none⟩))) (w.alloc (.cells (vl 0 e0).toArray 26)) := by
  unfold execOp
  simp only [ho, Sem.run_bind, vl_zero, Result.andThen_ok]
  rfl
theorem vl_build0 (w : World) : (Instr.build 26 #[]).run Try.prog w = .ok (.agg (vl 0 e0).toArray) w := by kernel_rfl
theorem vl_buildN (n : Int) (w : World) : (Instr.build 26 #[(0, .int .i64 n)]).run Try.prog w = .ok (.agg (vl n e0).toArray) w := by kernel_rfl
theorem vl_buildS (s : ByteArray) (w : World) : (Instr.build 26 #[(1, .string s)]).run Try.prog w = .ok (.agg (vl 0 s).toArray) w := by kernel_rfl
theorem vl_buildB (n : Int) (s : ByteArray) (w : World) : (Instr.build 26 #[(0, .int .i64 n), (1, .string s)]).run Try.prog w = .ok (.agg (vl n s).toArray) w := by kernel_rfl
theorem exec_vl0 (ev : Operand → Value) (op : Oper) (ho : op.op = .build 26 #[]) (w : World) : (execOp ev op).run Try.prog w = .ok (.value (.agg (vl 0 e0).toArray)) w := by
  unfold execOp
  simp only [ho, List.map_toArray, List.map_nil, Sem.run_bind, Sem.run_pure, vl_build0, Result.andThen_ok]
theorem exec_vlN (ev : Operand → Value) (op : Oper) (x : Operand) (n : Int) (ho : op.op = .build 26 #[(0, x)]) (hx : ev x = .int .i64 n) (w : World) : (execOp ev op).run Try.prog w = .ok (.value (.agg (vl n e0).toArray)) w := by
  unfold execOp
  simp only [ho, List.map_toArray, List.map_cons, List.map_nil, hx, Sem.run_bind, Sem.run_pure, vl_buildN, Result.andThen_ok]
theorem exec_vlS (ev : Operand → Value) (op : Oper) (x : Operand) (s : ByteArray) (ho : op.op = .build 26 #[(1, x)]) (hx : ev x = .string s) (w : World) : (execOp ev op).run Try.prog w = .ok (.value (.agg (vl 0 s).toArray)) w := by
  unfold execOp
  simp only [ho, List.map_toArray, List.map_cons, List.map_nil, hx, Sem.run_bind, Sem.run_pure, vl_buildS, Result.andThen_ok]
theorem exec_vlB (ev : Operand → Value) (op : Oper) (x y : Operand) (n : Int) (s : ByteArray) (ho : op.op = .build 26 #[(0, x), (1, y)]) (hx : ev x = .int .i64 n) (hy : ev y = .string s) (w : World) : (execOp ev op).run Try.prog w = .ok (.value (.agg (vl n s).toArray)) w := by
  unfold execOp
  simp only [ho, List.map_toArray, List.map_cons, List.map_nil, hx, hy, Sem.run_bind, Sem.run_pure, vl_buildB, Result.andThen_ok]
theorem vl_fields : Try.prog.fieldsOf 26 = #[⟨"N", 3, 0, false, "", "", 0⟩, ⟨"S", 9, 1, false, "", "", 8⟩] := by kernel_rfl
theorem vpart (t : TypeId) (ha : ∀ w, (isAgg t).run Try.prog w = .ok false w) (n : Int) (s : ByteArray) (k : Nat) (v : Value) (hk : (vl n s)[k]? = some v) (w : World) : (part t (vl n s).toArray k).run Try.prog w = .ok v w := by
  unfold part
  simp [Sem.run_bind, ha, hk]
theorem run_eql_vl (n1 n2 : Int) (s1 s2 : ByteArray) (w : World) : (binOp .eql 26 (.agg (vl n1 s1).toArray) (.agg (vl n2 s2).toArray)).run Try.prog w = .ok (.bool (decide (n1 = n2 ∧ s1 = s2))) w := by
  have hu : Try.prog.underlying 26 = some (.struct (Try.prog.fieldsOf 26)) := by rw [vl_fields]; kernel_rfl
  have main : (Op.equalIn (9999 + 1) 26 (.agg (vl n1 s1).toArray) (.agg (vl n2 s2).toArray)).run Try.prog w = .ok (decide (n1 = n2 ∧ s1 = s2)) w := by
    rw [run_equalIn_struct w 9999 26 _ _ hu (by kernel_rfl), vl_fields]
    have eI := run_equalIn_int (P := Try.prog) w 9998 3 .i64 .i64 n1 n2 Try.underlying3
    have eS := run_equalIn_string (P := Try.prog) w 9998 9 s1 s2 Try.underlying9
    rw [name_eq] at eS
    simp only [Op.eqFields, Sem.run_bind, Sem.run_ite, vpart 3 run_agg3 n1 s1 0 _ rfl, vpart 3 run_agg3 n2 s2 0 _ rfl, vpart 9 run_agg9 n1 s1 1 _ rfl, vpart 9 run_agg9 n2 s2 1 _ rfl, Result.andThen_ok, eI, eS]
    by_cases h0 : n1 = n2
    · by_cases h1 : s1 = s2
      · simp [h0, h1]
      · simp [h0, h1]
    · simp [h0]
  rw [run_eql_struct]
  have := main
  simp only [Nat.reduceAdd] at this
  rw [this]
  rfl
theorem exec_eql_vl (ev : Operand → Value) (op : Oper) {a b : Operand} (ho : op.op = .binOp .eql 26 a b 26) (n1 n2 : Int) (s1 s2 : ByteArray) (w : World) (h1 : ev a = .agg (vl n1 s1).toArray) (h2 : ev b = .agg (vl n2 s2).toArray) : (execOp ev op).run Try.prog w = .ok (.value (.bool (decide (n1 = n2 ∧ s1 = s2)))) w := by
  have hg : (eqGuard .eql 26 a b (.agg (vl n1 s1).toArray) (.agg (vl n2 s2).toArray)).run Try.prog w = .ok () w := by simp [eqGuard]
  unfold execOp
  simp only [ho, h1, h2, Sem.run_bind, run_eql_vl, hg, Result.andThen_ok, Sem.run_pure]
theorem run_neq_vl (n1 n2 : Int) (s1 s2 : ByteArray) (w : World) : (binOp .neq 26 (.agg (vl n1 s1).toArray) (.agg (vl n2 s2).toArray)).run Try.prog w = .ok (.bool (!decide (n1 = n2 ∧ s1 = s2))) w := by
  have h := run_eql_vl n1 n2 s1 s2 w
  rw [run_eql_struct] at h
  have hn : (binOp .neq 26 (.agg (vl n1 s1).toArray) (.agg (vl n2 s2).toArray)).run Try.prog w = ((Op.equalIn 10000 26 (.agg (vl n1 s1).toArray) (.agg (vl n2 s2).toArray)).run Try.prog w).andThen fun b w' => .ok (.bool (!b)) w' := by
    simp [binOp]
    rfl
  rw [hn]
  cases hq : (Op.equalIn 10000 26 (.agg (vl n1 s1).toArray) (.agg (vl n2 s2).toArray)).run Try.prog w with
  | ok b w2 =>
    rw [hq] at h
    simp only [Result.andThen_ok] at h ⊢
    injection h with h3 h4
    injection h3 with h5
    rw [h5, h4]
  | _ => rw [hq] at h; simp [Result.andThen] at h
theorem exec_neq_vl (ev : Operand → Value) (op : Oper) {a b : Operand} (ho : op.op = .binOp .neq 26 a b 26) (n1 n2 : Int) (s1 s2 : ByteArray) (w : World) (h1 : ev a = .agg (vl n1 s1).toArray) (h2 : ev b = .agg (vl n2 s2).toArray) : (execOp ev op).run Try.prog w = .ok (.value (.bool (!decide (n1 = n2 ∧ s1 = s2)))) w := by
  have hg : (eqGuard .neq 26 a b (.agg (vl n1 s1).toArray) (.agg (vl n2 s2).toArray)).run Try.prog w = .ok () w := by simp [eqGuard]
  unfold execOp
  simp only [ho, h1, h2, Sem.run_bind, run_neq_vl, hg, Result.andThen_ok, Sem.run_pure]
theorem run_cell (fn : Func) (t T : Nat) (hr : fn.results = #[.cell t T]) (b : Nat) (cs : List Value) (w : World) (h2 : w.rangeAt b 0 cs) {d : TypeDesc} (hu : Try.prog.underlying T = some d) (hd : d.isRow = true) (hi : (Try.prog.info? T).map (·.size) = some cs.length)
    (tmps : Array Value) (e4 : tmps.getD t undef = .pointer (some ⟨b, 0, none⟩)) : (results fn tmps).run Try.prog w = .ok (.agg cs.toArray) w := by
  have hl : (loadVar T ⟨b, 0, none⟩).run Try.prog w = .ok (.agg cs.toArray) w := run_loadVar_mid (P := Try.prog) w b 0 T cs _ h2 hu hd hi
  have e4' : tmps[t]?.getD undef = .pointer (some ⟨b, 0, none⟩) := by simpa using e4
  simp [results, hr, e4', asAddr, hl]
/-- A field of an element. -/
def getN (o : El) (f : Int) : Int := if f = 0 then o.kind else if f = 1 then o.par else if f = 2 then o.ord else if f = 4 then o.frm else if f = 5 then o.to else 0
def getS (o : El) (f : Int) : ByteArray := if f = 3 then o.name else if f = 6 then o.ev else if f = 7 then o.gd else if f = 8 then o.ac else e0
def setV (o : El) (f : Int) (n : Int) (s : ByteArray) : El :=
  if f = 0 then { o with kind := n % 256 } else if f = 1 then { o with par := n } else if f = 2 then { o with ord := n } else if f = 3 then { o with name := s } else if f = 4 then { o with frm := n }
  else if f = 5 then { o with to := n } else if f = 6 then { o with ev := s } else if f = 7 then { o with gd := s } else if f = 8 then { o with ac := s } else o
def GetPost (w : World) (o : El) (f : Int) (e : Ending) (w' : World) : Prop := e = .returned (.agg (vl (getN o f) (getS o f)).toArray) ∧ Turn (fun _ => False) w w'

set_option maxHeartbeats 4000000 in
theorem get_any (w : World) (o : El) (f : Int) (hk : 0 ≤ o.kind ∧ o.kind ≤ 255) : Calls Try.prog 42 #[.agg o.vals.toArray, .int .i64 f] w (GetPost w o f) := by
  have hbx := box_alloc w 24 o.vals
  obtain ⟨X, hX⟩ : ∃ X, w.heap.size = X := ⟨_, rfl⟩
  obtain ⟨w1, hw1⟩ : ∃ w1, w.alloc (.cells o.vals.toArray 24) = w1 := ⟨_, rfl⟩
  rw [hw1] at hbx
  have hby := box_alloc w1 26 (vl 0 e0)
  obtain ⟨Y, hY⟩ : ∃ Y, w1.heap.size = Y := ⟨_, rfl⟩
  obtain ⟨w2, hw2⟩ : ∃ w2, w1.alloc (.cells (vl 0 e0).toArray 26) = w2 := ⟨_, rfl⟩
  rw [hw2] at hby
  have hx0 : ∀ ev op, op.op = .alloc 26 → (execOp ev op).run Try.prog w1 = .ok (.value (.pointer (some ⟨Y, 0, none⟩))) w2 := fun ev op ho => by rw [← hw2, ← hY]; exact exec_zero37 ev op ho _
  have hyh := hby.heap
  rw [hY] at hyh
  have hXY : Y = X + 1 := by rw [← hY, hbx.size, hX]
  have HYH := Lib.hid hyh
  have HT := Lib.hid (hbx.turn.trans hby.turn (fun _ _ => id))
  have hr := rangeAt_turn hbx.range hby.turn id
  rw [hX] at hr
  have HWS := Lib.hid (show w.heap.size < Y by omega)
  have HX0 := Lib.hid hx0
  have c0 : w2.cell? ⟨X, 0, none⟩ = some (.int .i64 o.id) := by have := hr 0 _ rfl; rwa [Nat.zero_add] at this
  have c1 : w2.cell? ⟨X, 1, none⟩ = some (.int .u8 o.kind) := by have := hr 1 _ rfl; rwa [Nat.zero_add] at this
  have c2 : w2.cell? ⟨X, 2, none⟩ = some (.int .i64 o.par) := by have := hr 2 _ rfl; rwa [Nat.zero_add] at this
  have c3 : w2.cell? ⟨X, 3, none⟩ = some (.int .i64 o.ord) := by have := hr 3 _ rfl; rwa [Nat.zero_add] at this
  have c4 : w2.cell? ⟨X, 4, none⟩ = some (.string o.name) := by have := hr 4 _ rfl; rwa [Nat.zero_add] at this
  have c5 : w2.cell? ⟨X, 5, none⟩ = some (.int .i64 o.frm) := by have := hr 5 _ rfl; rwa [Nat.zero_add] at this
  have c6 : w2.cell? ⟨X, 6, none⟩ = some (.int .i64 o.to) := by have := hr 6 _ rfl; rwa [Nat.zero_add] at this
  have c7 : w2.cell? ⟨X, 7, none⟩ = some (.string o.ev) := by have := hr 7 _ rfl; rwa [Nat.zero_add] at this
  have c8 : w2.cell? ⟨X, 8, none⟩ = some (.string o.gd) := by have := hr 8 _ rfl; rwa [Nat.zero_add] at this
  have c9 : w2.cell? ⟨X, 9, none⟩ = some (.string o.ac) := by have := hr 9 _ rfl; rwa [Nat.zero_add] at this
  have hwk : IntKind.i64.wrap o.kind = o.kind := by rw [IntKind.wrap_i64]; omega
  clear hbx hby hx0 hyh hr hXY hY hw2
  by_cases hf : 0 ≤ f ∧ f ≤ 8
  · have hcs : f = 0 ∨ f = 1 ∨ f = 2 ∨ f = 3 ∨ f = 4 ∨ f = 5 ∨ f = 6 ∨ f = 7 ∨ f = 8 := by omega
    clear hf
    rcases hcs with rfl | rfl | rfl | rfl | rfl | rfl | rfl | rfl | rfl
    · go_enter Try.func42, Try.ntmps42
      go_wp2_with (with_reducible (show wpList _ _ _ (Oper.mk (some 4) (.alloc 26) _ _ _ _ :: _) _ _); refine still ?_)
      refine list_exec rfl _ _ (HX0.out _ _ rfl) ?_
      go_wp2_with (with_reducible (show wpList _ _ _ (Oper.mk (some 11) _ _ _ _ _ :: _) _ _); refine still ?_)
      refine list_exec rfl _ _ (exec_vlN _ _ (.tmp 10) o.kind rfl rfl _) ?_
      go_wp2_with (with_reducible (show wpList _ _ _ (Oper.mk none (.store 26 (.tmp 4) (.tmp 11)) _ _ _ _ :: _) _ _); refine still ?_)
      refine list_put w2 Y 26 (vl 0 e0) (vl o.kind e0) HYH.out rfl (vl_one _ _) vl_info rfl (.tmp 4) (.tmp 11) rfl rfl rfl (fun w3 h3 t3 => ?_)
      have H3 := Lib.hid h3
      have HT3 := Lib.hid (HT.out.trans t3 (fun q hq e => by have := HWS.out; omega))
      clear h3 t3 c0 c1 c2 c3 c4 c5 c6 c7 c8 c9
      go_wp2_with fail
      refine bodyPost_ret (run_cell Try.f42 4 26 (by kernel_rfl) Y _ w3 (range_of H3.out) Try.underlying26 rfl vl_info _ rfl) rfl ?_
      exact ⟨by first | rfl | simp [getN, getS], HT3.out⟩
    · go_enter Try.func42, Try.ntmps42
      go_wp2_with (with_reducible (show wpList _ _ _ (Oper.mk (some 4) (.alloc 26) _ _ _ _ :: _) _ _); refine still ?_)
      refine list_exec rfl _ _ (HX0.out _ _ rfl) ?_
      go_wp2_with (with_reducible (show wpList _ _ _ (Oper.mk (some 16) _ _ _ _ _ :: _) _ _); refine still ?_)
      refine list_exec rfl _ _ (exec_vlN _ _ (.tmp 15) o.par rfl rfl _) ?_
      go_wp2_with (with_reducible (show wpList _ _ _ (Oper.mk none (.store 26 (.tmp 4) (.tmp 16)) _ _ _ _ :: _) _ _); refine still ?_)
      refine list_put w2 Y 26 (vl 0 e0) (vl o.par e0) HYH.out rfl (vl_one _ _) vl_info rfl (.tmp 4) (.tmp 16) rfl rfl rfl (fun w3 h3 t3 => ?_)
      have H3 := Lib.hid h3
      have HT3 := Lib.hid (HT.out.trans t3 (fun q hq e => by have := HWS.out; omega))
      clear h3 t3 c0 c1 c2 c3 c4 c5 c6 c7 c8 c9
      go_wp2_with fail
      refine bodyPost_ret (run_cell Try.f42 4 26 (by kernel_rfl) Y _ w3 (range_of H3.out) Try.underlying26 rfl vl_info _ rfl) rfl ?_
      exact ⟨by first | rfl | simp [getN, getS], HT3.out⟩
    · go_enter Try.func42, Try.ntmps42
      go_wp2_with (with_reducible (show wpList _ _ _ (Oper.mk (some 4) (.alloc 26) _ _ _ _ :: _) _ _); refine still ?_)
      refine list_exec rfl _ _ (HX0.out _ _ rfl) ?_
      go_wp2_with (with_reducible (show wpList _ _ _ (Oper.mk (some 21) _ _ _ _ _ :: _) _ _); refine still ?_)
      refine list_exec rfl _ _ (exec_vlN _ _ (.tmp 20) o.ord rfl rfl _) ?_
      go_wp2_with (with_reducible (show wpList _ _ _ (Oper.mk none (.store 26 (.tmp 4) (.tmp 21)) _ _ _ _ :: _) _ _); refine still ?_)
      refine list_put w2 Y 26 (vl 0 e0) (vl o.ord e0) HYH.out rfl (vl_one _ _) vl_info rfl (.tmp 4) (.tmp 21) rfl rfl rfl (fun w3 h3 t3 => ?_)
      have H3 := Lib.hid h3
      have HT3 := Lib.hid (HT.out.trans t3 (fun q hq e => by have := HWS.out; omega))
      clear h3 t3 c0 c1 c2 c3 c4 c5 c6 c7 c8 c9
      go_wp2_with fail
      refine bodyPost_ret (run_cell Try.f42 4 26 (by kernel_rfl) Y _ w3 (range_of H3.out) Try.underlying26 rfl vl_info _ rfl) rfl ?_
      exact ⟨by first | rfl | simp [getN, getS], HT3.out⟩
    · go_enter Try.func42, Try.ntmps42
      go_wp2_with (with_reducible (show wpList _ _ _ (Oper.mk (some 4) (.alloc 26) _ _ _ _ :: _) _ _); refine still ?_)
      refine list_exec rfl _ _ (HX0.out _ _ rfl) ?_
      go_wp2_with (with_reducible (show wpList _ _ _ (Oper.mk (some 26) _ _ _ _ _ :: _) _ _); refine still ?_)
      refine list_exec rfl _ _ (exec_vlS _ _ (.tmp 25) o.name rfl rfl _) ?_
      go_wp2_with (with_reducible (show wpList _ _ _ (Oper.mk none (.store 26 (.tmp 4) (.tmp 26)) _ _ _ _ :: _) _ _); refine still ?_)
      refine list_put w2 Y 26 (vl 0 e0) (vl 0 o.name) HYH.out rfl (vl_one _ _) vl_info rfl (.tmp 4) (.tmp 26) rfl rfl rfl (fun w3 h3 t3 => ?_)
      have H3 := Lib.hid h3
      have HT3 := Lib.hid (HT.out.trans t3 (fun q hq e => by have := HWS.out; omega))
      clear h3 t3 c0 c1 c2 c3 c4 c5 c6 c7 c8 c9
      go_wp2_with fail
      refine bodyPost_ret (run_cell Try.f42 4 26 (by kernel_rfl) Y _ w3 (range_of H3.out) Try.underlying26 rfl vl_info _ rfl) rfl ?_
      exact ⟨by first | rfl | simp [getN, getS], HT3.out⟩
    · go_enter Try.func42, Try.ntmps42
      go_wp2_with (with_reducible (show wpList _ _ _ (Oper.mk (some 4) (.alloc 26) _ _ _ _ :: _) _ _); refine still ?_)
      refine list_exec rfl _ _ (HX0.out _ _ rfl) ?_
      go_wp2_with (with_reducible (show wpList _ _ _ (Oper.mk (some 31) _ _ _ _ _ :: _) _ _); refine still ?_)
      refine list_exec rfl _ _ (exec_vlN _ _ (.tmp 30) o.frm rfl rfl _) ?_
      go_wp2_with (with_reducible (show wpList _ _ _ (Oper.mk none (.store 26 (.tmp 4) (.tmp 31)) _ _ _ _ :: _) _ _); refine still ?_)
      refine list_put w2 Y 26 (vl 0 e0) (vl o.frm e0) HYH.out rfl (vl_one _ _) vl_info rfl (.tmp 4) (.tmp 31) rfl rfl rfl (fun w3 h3 t3 => ?_)
      have H3 := Lib.hid h3
      have HT3 := Lib.hid (HT.out.trans t3 (fun q hq e => by have := HWS.out; omega))
      clear h3 t3 c0 c1 c2 c3 c4 c5 c6 c7 c8 c9
      go_wp2_with fail
      refine bodyPost_ret (run_cell Try.f42 4 26 (by kernel_rfl) Y _ w3 (range_of H3.out) Try.underlying26 rfl vl_info _ rfl) rfl ?_
      exact ⟨by first | rfl | simp [getN, getS], HT3.out⟩
    · go_enter Try.func42, Try.ntmps42
      go_wp2_with (with_reducible (show wpList _ _ _ (Oper.mk (some 4) (.alloc 26) _ _ _ _ :: _) _ _); refine still ?_)
      refine list_exec rfl _ _ (HX0.out _ _ rfl) ?_
      go_wp2_with (with_reducible (show wpList _ _ _ (Oper.mk (some 36) _ _ _ _ _ :: _) _ _); refine still ?_)
      refine list_exec rfl _ _ (exec_vlN _ _ (.tmp 35) o.to rfl rfl _) ?_
      go_wp2_with (with_reducible (show wpList _ _ _ (Oper.mk none (.store 26 (.tmp 4) (.tmp 36)) _ _ _ _ :: _) _ _); refine still ?_)
      refine list_put w2 Y 26 (vl 0 e0) (vl o.to e0) HYH.out rfl (vl_one _ _) vl_info rfl (.tmp 4) (.tmp 36) rfl rfl rfl (fun w3 h3 t3 => ?_)
      have H3 := Lib.hid h3
      have HT3 := Lib.hid (HT.out.trans t3 (fun q hq e => by have := HWS.out; omega))
      clear h3 t3 c0 c1 c2 c3 c4 c5 c6 c7 c8 c9
      go_wp2_with fail
      refine bodyPost_ret (run_cell Try.f42 4 26 (by kernel_rfl) Y _ w3 (range_of H3.out) Try.underlying26 rfl vl_info _ rfl) rfl ?_
      exact ⟨by first | rfl | simp [getN, getS], HT3.out⟩
    · go_enter Try.func42, Try.ntmps42
      go_wp2_with (with_reducible (show wpList _ _ _ (Oper.mk (some 4) (.alloc 26) _ _ _ _ :: _) _ _); refine still ?_)
      refine list_exec rfl _ _ (HX0.out _ _ rfl) ?_
      go_wp2_with (with_reducible (show wpList _ _ _ (Oper.mk (some 41) _ _ _ _ _ :: _) _ _); refine still ?_)
      refine list_exec rfl _ _ (exec_vlS _ _ (.tmp 40) o.ev rfl rfl _) ?_
      go_wp2_with (with_reducible (show wpList _ _ _ (Oper.mk none (.store 26 (.tmp 4) (.tmp 41)) _ _ _ _ :: _) _ _); refine still ?_)
      refine list_put w2 Y 26 (vl 0 e0) (vl 0 o.ev) HYH.out rfl (vl_one _ _) vl_info rfl (.tmp 4) (.tmp 41) rfl rfl rfl (fun w3 h3 t3 => ?_)
      have H3 := Lib.hid h3
      have HT3 := Lib.hid (HT.out.trans t3 (fun q hq e => by have := HWS.out; omega))
      clear h3 t3 c0 c1 c2 c3 c4 c5 c6 c7 c8 c9
      go_wp2_with fail
      refine bodyPost_ret (run_cell Try.f42 4 26 (by kernel_rfl) Y _ w3 (range_of H3.out) Try.underlying26 rfl vl_info _ rfl) rfl ?_
      exact ⟨by first | rfl | simp [getN, getS], HT3.out⟩
    · go_enter Try.func42, Try.ntmps42
      go_wp2_with (with_reducible (show wpList _ _ _ (Oper.mk (some 4) (.alloc 26) _ _ _ _ :: _) _ _); refine still ?_)
      refine list_exec rfl _ _ (HX0.out _ _ rfl) ?_
      go_wp2_with (with_reducible (show wpList _ _ _ (Oper.mk (some 46) _ _ _ _ _ :: _) _ _); refine still ?_)
      refine list_exec rfl _ _ (exec_vlS _ _ (.tmp 45) o.gd rfl rfl _) ?_
      go_wp2_with (with_reducible (show wpList _ _ _ (Oper.mk none (.store 26 (.tmp 4) (.tmp 46)) _ _ _ _ :: _) _ _); refine still ?_)
      refine list_put w2 Y 26 (vl 0 e0) (vl 0 o.gd) HYH.out rfl (vl_one _ _) vl_info rfl (.tmp 4) (.tmp 46) rfl rfl rfl (fun w3 h3 t3 => ?_)
      have H3 := Lib.hid h3
      have HT3 := Lib.hid (HT.out.trans t3 (fun q hq e => by have := HWS.out; omega))
      clear h3 t3 c0 c1 c2 c3 c4 c5 c6 c7 c8 c9
      go_wp2_with fail
      refine bodyPost_ret (run_cell Try.f42 4 26 (by kernel_rfl) Y _ w3 (range_of H3.out) Try.underlying26 rfl vl_info _ rfl) rfl ?_
      exact ⟨by first | rfl | simp [getN, getS], HT3.out⟩
    · go_enter Try.func42, Try.ntmps42
      go_wp2_with (with_reducible (show wpList _ _ _ (Oper.mk (some 4) (.alloc 26) _ _ _ _ :: _) _ _); refine still ?_)
      refine list_exec rfl _ _ (HX0.out _ _ rfl) ?_
      go_wp2_with (with_reducible (show wpList _ _ _ (Oper.mk (some 51) _ _ _ _ _ :: _) _ _); refine still ?_)
      refine list_exec rfl _ _ (exec_vlS _ _ (.tmp 50) o.ac rfl rfl _) ?_
      go_wp2_with (with_reducible (show wpList _ _ _ (Oper.mk none (.store 26 (.tmp 4) (.tmp 51)) _ _ _ _ :: _) _ _); refine still ?_)
      refine list_put w2 Y 26 (vl 0 e0) (vl 0 o.ac) HYH.out rfl (vl_one _ _) vl_info rfl (.tmp 4) (.tmp 51) rfl rfl rfl (fun w3 h3 t3 => ?_)
      have H3 := Lib.hid h3
      have HT3 := Lib.hid (HT.out.trans t3 (fun q hq e => by have := HWS.out; omega))
      clear h3 t3 c0 c1 c2 c3 c4 c5 c6 c7 c8 c9
      go_wp2_with fail
      refine bodyPost_ret (run_cell Try.f42 4 26 (by kernel_rfl) Y _ w3 (range_of H3.out) Try.underlying26 rfl vl_info _ rfl) rfl ?_
      exact ⟨by first | rfl | simp [getN, getS], HT3.out⟩
  · have hg : getN o f = 0 ∧ getS o f = e0 := by
      unfold getN getS
      rw [if_neg (by omega), if_neg (by omega), if_neg (by omega), if_neg (by omega), if_neg (by omega), if_neg (by omega), if_neg (by omega), if_neg (by omega), if_neg (by omega)]
      exact ⟨rfl, rfl⟩
    have HG := Lib.hid hg
    have d0 : (f == 0) = false := by simp; omega
    have d1 : (f == 1) = false := by simp; omega
    have d2 : (f == 2) = false := by simp; omega
    have d3 : (f == 3) = false := by simp; omega
    have d4 : (f == 4) = false := by simp; omega
    have d5 : (f == 5) = false := by simp; omega
    have d6 : (f == 6) = false := by simp; omega
    have d7 : (f == 7) = false := by simp; omega
    have d8 : (f == 8) = false := by simp; omega
    clear hg
    go_enter Try.func42, Try.ntmps42
    go_wp2_with (with_reducible (show wpList _ _ _ (Oper.mk (some 4) (.alloc 26) _ _ _ _ :: _) _ _); refine still ?_)
    refine list_exec rfl _ _ (HX0.out _ _ rfl) ?_
    go_wp2_with (with_reducible (show wpList _ _ _ (Oper.mk (some 52) _ _ _ _ _ :: _) _ _); refine still ?_)
    refine list_exec rfl _ _ (exec_vl0 _ _ rfl _) ?_
    go_wp2_with (with_reducible (show wpList _ _ _ (Oper.mk none (.store 26 (.tmp 4) (.tmp 52)) _ _ _ _ :: _) _ _); refine still ?_)
    refine list_put w2 Y 26 (vl 0 e0) (vl 0 e0) HYH.out rfl (vl_one _ _) vl_info rfl (.tmp 4) (.tmp 52) rfl rfl rfl (fun w3 h3 t3 => ?_)
    have H3 := Lib.hid h3
    have HT3 := Lib.hid (HT.out.trans t3 (fun q hq e => by have := HWS.out; omega))
    clear h3 t3 c0 c1 c2 c3 c4 c5 c6 c7 c8 c9
    go_wp2_with fail
    refine bodyPost_ret (run_cell Try.f42 4 26 (by kernel_rfl) Y _ w3 (range_of H3.out) Try.underlying26 rfl vl_info _ rfl) rfl ?_
    exact ⟨by rw [HG.out.1, HG.out.2], HT3.out⟩
end Go.Proofs.Ytbokdgcdkmnldaa
