/- Own texts, packed: Rr, Pm, Gt, Ch. No statement is proved here. -/
import Derived.Test.YtkciaafkhpjnaaaQ06
namespace Go.Proofs.Ytkciaafkhpjnaaa
set_option maxRecDepth 100000
open Go.RowKit
set_option linter.unusedVariables false
set_option linter.unusedSimpArgs false


theorem dropE_snoc (l : List El) (x : El) (nr : Int) : dropE (l ++ [x]) nr = if x.id = nr then dropE l nr else dropE l nr ++ [x] := by
  unfold dropE
  rw [List.filter_append]
  by_cases h : x.id = nr
  · rw [if_pos h, filter_none (l := [x]) (fun y hy => by rw [List.mem_singleton.1 hy, decide_eq_true h]; rfl), List.append_nil]
  · have f : ([x] : List El).filter (fun y => !decide (y.id = nr)) = [x] := List.filter_eq_self.2 (fun y hy => by rw [List.mem_singleton.1 hy, decide_eq_false h]; rfl)
    rw [if_neg h, f]
theorem dropE_len (l : List El) (nr : Int) : (dropE l nr).length ≤ l.length := List.length_filter_le _ _
set_option maxHeartbeats 4000000 in
theorem rdrop_any (w : World) (v : Value) (l : List El) (nr : Int) (hv : RowV w v l) (hb : l.length ≤ 1000) : Calls Try.prog 25 #[v, .int .i64 nr] w (NewEls w (dropE l nr)) := by
  obtain ⟨la, lc, rfl⟩ := hv.form
  obtain ⟨n, hn⟩ : ∃ n, l.length = n := ⟨_, rfl⟩
  rw [hn] at hv hb
  simp only [hn]
  have HV := Lib.hid hv
  have HN := Lib.hid hn
  clear hv hn
  go_enter Try.func25, Try.ntmps25
  go_wp2_with fail
  go_loopw [5, 6] (fun sv iv wr => ∃ k : Nat, k ≤ n ∧ iv = .int .i64 (k : Int) ∧ wr.ownsRow w.heap.size 38 10 sv (dropE (l.take k) nr).length (elsV (dropE (l.take k) nr)) ∧ Turn (fun _ => False) w wr) (fun _ iv _ => n - (intOf iv).toNat)
  case atStart => exact ⟨0, Nat.zero_le _, rfl, World.ownsRow_nil _ _ _ _, Turn.refl _ _⟩
  case round =>
    obtain ⟨k, hk, rfl, ho, htr⟩ := hrel
    have HO := Lib.hid ho
    have HT := Lib.hid htr
    clear ho htr
    by_cases hlt : k < n
    · have hsn := take_snoc l k (by rw [HN.out]; exact hlt)
      obtain ⟨g, o, rfl, hc, hs1⟩ := (HV.out.turn HT.out (fun _ _ => id)).one HN.out k hlt
      have gi : (0 : Int) ≤ (k : Int) ∧ (k : Int) < (n : Int) := by omega
      generalize hx : l.getD k el0 = x at *
      have c1 := range0 hs1
      have HS1 := Lib.hid hs1
      have hst := dropE_snoc (l.take k) x nr
      rw [← hsn] at hst
      have HST := Lib.hid hst
      clear hx hs1 hsn hst
      by_cases he : x.id = nr
      · have d1 : (x.id != nr) = false := by simpa using he
        have HE := Lib.hid he
        clear he
        go_wp2_with fail
        go_roundw
        case rel => exact ⟨k + 1, by omega, by go_num, by rw [HST.out, if_pos HE.out]; exact HO.out, HT.out⟩
        case measure => simp [intOf]; omega
      · have d1 : (x.id != nr) = true := by simpa using he
        have HE := Lib.hid he
        clear he
        obtain ⟨va, wa, hra, hoa, tta, aa, ca, hva⟩ := app_one wr w.heap.size 25 25 Try.underlying25 _ (dropE (l.take k) nr) x HO.out HT.out.size (by have := dropE_len (l.take k) nr; have : (l.take k).length ≤ k := List.length_take_le _ _; omega)
        have HRa := Lib.hid hra
        have HOa := Lib.hid hoa
        have HTa := Lib.hid (turn_on HO.out (Nat.le_refl _) HT.out tta)
        clear hra hoa tta hva
        go_wp2_with (with_reducible (show wpList _ _ _ (Oper.mk (some 24) (.load 38 (.tmp 23)) _ _ _ _ :: _) _ _); refine still ?_)
        refine wpList_load_mid rfl 38 (.tmp 23) rfl g (o + k * 10) rfl x.vals _ HS1.out Try.underlying38 rfl el_info ?_
        go_wp2_with (with_reducible (show wpList _ _ _ (Oper.mk (some 25) _ _ _ _ _ :: _) _ _); refine still ?_)
        refine list_exec rfl _ _ (exec_build_one _ _ (.tmp 24) 25 Try.underlying25 rfl x rfl _) ?_
        go_wp2_with (with_reducible (show wpList _ _ _ (Oper.mk (some 26) _ _ _ _ _ :: _) _ _); refine still ?_)
        refine list_exec rfl _ _ (exec_append _ _ (.tmp 20) (.tmp 25) 25 rfl _ _ _ _ _ rfl rfl HRa.out) ?_
        clear c1
        go_wp2_with fail
        go_roundw
        case rel => exact ⟨k + 1, by omega, by go_num, by rw [HST.out, if_neg HE.out]; exact HOa.out, HTa.out⟩
        case measure => simp [intOf]; omega
    · have hke : k = n := by omega
      have hto : l.take k = l := List.take_of_length_le (by rw [HN.out]; omega)
      have HTO := Lib.hid hto
      clear hto
      go_wp2_with fail
      go_ret
      refine ⟨_, rfl, ?_, HT.out⟩
      have := HO.out
      rwa [HTO.out] at this
theorem putE_len (l : List El) (e : El) : (putE l e).length ≤ 2 * l.length + 1 := by
  unfold putE
  have h1 := List.length_filter_le (fun x : El => decide (x.id < e.id)) l
  have h2 := List.length_filter_le (fun x : El => decide (e.id < x.id)) l
  simp only [List.length_append, List.length_cons]
  omega
theorem mem_putE {l : List El} {e x : El} : x ∈ putE l e ↔ x = e ∨ (x ∈ l ∧ x.id ≠ e.id) := by
  unfold putE
  simp only [List.mem_append, List.mem_filter, List.mem_cons, decide_eq_true_eq]
  constructor
  · rintro (⟨h1, h2⟩ | h | ⟨h1, h2⟩)
    · exact .inr ⟨h1, by omega⟩
    · exact .inl h
    · exact .inr ⟨h1, by omega⟩
  · rintro (h | ⟨h1, h2⟩)
    · exact .inr (.inl h)
    · by_cases h3 : x.id < e.id
      · exact .inl ⟨h1, h3⟩
      · exact .inr (.inr ⟨h1, by omega⟩)
theorem Rises.put {l : List El} (h : Rises l) (e : El) : Rises (putE l e) := by
  unfold Rises putE
  rw [List.pairwise_append, List.pairwise_cons]
  refine ⟨h.filter _, ⟨fun x hx => ?_, h.filter _⟩, fun x hx y hy => ?_⟩
  · simpa using (List.mem_filter.1 hx).2
  · have h1 : x.id < e.id := by simpa using (List.mem_filter.1 hx).2
    rcases List.mem_cons.1 hy with rfl | hy
    · exact h1
    · have h2 : e.id < y.id := by simpa using (List.mem_filter.1 hy).2
      omega
theorem build_at (n : Int) (w : World) : (Instr.build 38 #[(0, .int .i64 n)]).run Try.prog w = .ok (.agg (El.at n).vals.toArray) w := by kernel_rfl
theorem exec_build_at (ev : Operand → Value) (op : Oper) (x : Operand) (n : Int) (ho : op.op = .build 38 #[(0, x)]) (hx : ev x = .int .i64 n) (w : World) : (execOp ev op).run Try.prog w = .ok (.value (.agg (El.at n).vals.toArray)) w := by
  unfold execOp
  simp only [ho, List.map_toArray, List.map_cons, List.map_nil, hx, Sem.run_bind, Sem.run_pure, build_at, Result.andThen_ok]
end Go.Proofs.Ytkciaafkhpjnaaa
namespace Go.Proofs.Ytkciaafkhpjnaaa
set_option maxRecDepth 100000
open Go.RowKit
set_option linter.unusedVariables false
set_option linter.unusedSimpArgs false


theorem mem_at {l : List El} {x : El} (h : x ∈ l) : ∃ k, k < l.length ∧ l.getD k el0 = x := by
  obtain ⟨i, hi, rfl⟩ := List.getElem_of_mem h
  exact ⟨i, hi, by simp [List.getD, hi]⟩
end Go.Proofs.Ytkciaafkhpjnaaa
namespace Go.Proofs.Ytkciaafkhpjnaaa
set_option maxRecDepth 100000
open Go.RowKit
set_option linter.unusedVariables false
set_option linter.unusedSimpArgs false


def vl (n : Int) (s : ByteArray) : List Value := [.int .i64 n, .string s]
theorem vl_one (n : Int) (s : ByteArray) : ∀ v ∈ vl n s, v.oneCell' = true := fun v hv => by
  simp only [vl, List.mem_cons, List.not_mem_nil, or_false] at hv
  rcases hv with rfl | rfl <;> rfl
theorem vl_info : (Try.prog.info? 51).map (·.size) = some 2 := by kernel_rfl
def e0 : ByteArray := ByteArray.empty
theorem vl_zero (w : World) : (zeroValue 51).run Try.prog w = .ok (.agg (vl 0 e0).toArray) w := by kernel_rfl
theorem exec_zero37 (ev : Operand → Value) (op : Oper) (ho : op.op = .alloc 51) (w : World) : (execOp ev op).run Try.prog w = .ok (.value (.pointer (some ⟨w.heap.size, 0, none⟩))) (w.alloc (.cells (vl 0 e0).toArray 51)) := by
  unfold execOp
  simp only [ho, Sem.run_bind, vl_zero, Result.andThen_ok]
  rfl
theorem vl_build0 (w : World) : (Instr.build 51 #[]).run Try.prog w = .ok (.agg (vl 0 e0).toArray) w := by kernel_rfl
theorem vl_buildN (n : Int) (w : World) : (Instr.build 51 #[(0, .int .i64 n)]).run Try.prog w = .ok (.agg (vl n e0).toArray) w := by kernel_rfl
theorem vl_buildS (s : ByteArray) (w : World) : (Instr.build 51 #[(1, .string s)]).run Try.prog w = .ok (.agg (vl 0 s).toArray) w := by kernel_rfl
theorem vl_buildB (n : Int) (s : ByteArray) (w : World) : (Instr.build 51 #[(0, .int .i64 n), (1, .string s)]).run Try.prog w = .ok (.agg (vl n s).toArray) w := by kernel_rfl
theorem exec_vl0 (ev : Operand → Value) (op : Oper) (ho : op.op = .build 51 #[]) (w : World) : (execOp ev op).run Try.prog w = .ok (.value (.agg (vl 0 e0).toArray)) w := by
  unfold execOp
  simp only [ho, List.map_toArray, List.map_nil, Sem.run_bind, Sem.run_pure, vl_build0, Result.andThen_ok]
theorem exec_vlN (ev : Operand → Value) (op : Oper) (x : Operand) (n : Int) (ho : op.op = .build 51 #[(0, x)]) (hx : ev x = .int .i64 n) (w : World) : (execOp ev op).run Try.prog w = .ok (.value (.agg (vl n e0).toArray)) w := by
  unfold execOp
  simp only [ho, List.map_toArray, List.map_cons, List.map_nil, hx, Sem.run_bind, Sem.run_pure, vl_buildN, Result.andThen_ok]
theorem exec_vlS (ev : Operand → Value) (op : Oper) (x : Operand) (s : ByteArray) (ho : op.op = .build 51 #[(1, x)]) (hx : ev x = .string s) (w : World) : (execOp ev op).run Try.prog w = .ok (.value (.agg (vl 0 s).toArray)) w := by
  unfold execOp
  simp only [ho, List.map_toArray, List.map_cons, List.map_nil, hx, Sem.run_bind, Sem.run_pure, vl_buildS, Result.andThen_ok]
theorem exec_vlB (ev : Operand → Value) (op : Oper) (x y : Operand) (n : Int) (s : ByteArray) (ho : op.op = .build 51 #[(0, x), (1, y)]) (hx : ev x = .int .i64 n) (hy : ev y = .string s) (w : World) : (execOp ev op).run Try.prog w = .ok (.value (.agg (vl n s).toArray)) w := by
  unfold execOp
  simp only [ho, List.map_toArray, List.map_cons, List.map_nil, hx, hy, Sem.run_bind, Sem.run_pure, vl_buildB, Result.andThen_ok]
theorem vl_fields : Try.prog.fieldsOf 51 = #[⟨"N", 3, 0, false, "", "", 0⟩, ⟨"S", 9, 1, false, "", "", 8⟩] := by kernel_rfl
theorem vpart (t : TypeId) (ha : ∀ w, (isAgg t).run Try.prog w = .ok false w) (n : Int) (s : ByteArray) (k : Nat) (v : Value) (hk : (vl n s)[k]? = some v) (w : World) : (part t (vl n s).toArray k).run Try.prog w = .ok v w := by
  unfold part
  simp [Sem.run_bind, ha, hk]
theorem run_eql_vl (n1 n2 : Int) (s1 s2 : ByteArray) (w : World) : (binOp .eql 51 (.agg (vl n1 s1).toArray) (.agg (vl n2 s2).toArray)).run Try.prog w = .ok (.bool (decide (n1 = n2 ∧ s1 = s2))) w := by
  have hu : Try.prog.underlying 51 = some (.struct (Try.prog.fieldsOf 51)) := by rw [vl_fields]; kernel_rfl
  have main : (Op.equalIn (9999 + 1) 51 (.agg (vl n1 s1).toArray) (.agg (vl n2 s2).toArray)).run Try.prog w = .ok (decide (n1 = n2 ∧ s1 = s2)) w := by
    rw [run_equalIn_struct w 9999 51 _ _ hu (by kernel_rfl), vl_fields]
    have eI := run_equalIn_int (P := Try.prog) w 9998 3 .i64 .i64 n1 n2 Try.underlying3
    have eS := run_equalIn_string (P := Try.prog) w 9998 9 s1 s2 Try.underlying9
    rw [name_eq] at eS
    simp only [Op.eqFields, Sem.run_bind, Sem.run_ite, vpart 3 run_agg3 n1 s1 0 _ rfl, vpart 3 run_agg3 n2 s2 0 _ rfl, vpart 9 run_agg9 n1 s1 1 _ rfl, vpart 9 run_agg9 n2 s2 1 _ rfl, Result.andThen_ok, eI, eS]
    by_cases h0 : n1 = n2
    · by_cases h1 : s1 = s2
      · simp [h0, h1]
      · simp [h0, h1]
    · simp [h0]
  rw [run_eql_struct]
  have := main
  simp only [Nat.reduceAdd] at this
  rw [this]
  rfl
theorem exec_eql_vl (ev : Operand → Value) (op : Oper) {a b : Operand} (ho : op.op = .binOp .eql 51 a b 51) (n1 n2 : Int) (s1 s2 : ByteArray) (w : World) (h1 : ev a = .agg (vl n1 s1).toArray) (h2 : ev b = .agg (vl n2 s2).toArray) : (execOp ev op).run Try.prog w = .ok (.value (.bool (decide (n1 = n2 ∧ s1 = s2)))) w := by
  have hg : (eqGuard .eql 51 a b (.agg (vl n1 s1).toArray) (.agg (vl n2 s2).toArray)).run Try.prog w = .ok () w := by simp [eqGuard]
  unfold execOp
  simp only [ho, h1, h2, Sem.run_bind, run_eql_vl, hg, Result.andThen_ok, Sem.run_pure]
theorem run_neq_vl (n1 n2 : Int) (s1 s2 : ByteArray) (w : World) : (binOp .neq 51 (.agg (vl n1 s1).toArray) (.agg (vl n2 s2).toArray)).run Try.prog w = .ok (.bool (!decide (n1 = n2 ∧ s1 = s2))) w := by
  have h := run_eql_vl n1 n2 s1 s2 w
  rw [run_eql_struct] at h
  have hn : (binOp .neq 51 (.agg (vl n1 s1).toArray) (.agg (vl n2 s2).toArray)).run Try.prog w = ((Op.equalIn 10000 51 (.agg (vl n1 s1).toArray) (.agg (vl n2 s2).toArray)).run Try.prog w).andThen fun b w' => .ok (.bool (!b)) w' := by
    simp [binOp]
    rfl
  rw [hn]
  cases hq : (Op.equalIn 10000 51 (.agg (vl n1 s1).toArray) (.agg (vl n2 s2).toArray)).run Try.prog w with
  | ok b w2 =>
    rw [hq] at h
    simp only [Result.andThen_ok] at h ⊢
    injection h with h3 h4
    injection h3 with h5
    rw [h5, h4]
  | _ => rw [hq] at h; simp [Result.andThen] at h
theorem exec_neq_vl (ev : Operand → Value) (op : Oper) {a b : Operand} (ho : op.op = .binOp .neq 51 a b 51) (n1 n2 : Int) (s1 s2 : ByteArray) (w : World) (h1 : ev a = .agg (vl n1 s1).toArray) (h2 : ev b = .agg (vl n2 s2).toArray) : (execOp ev op).run Try.prog w = .ok (.value (.bool (!decide (n1 = n2 ∧ s1 = s2)))) w := by
  have hg : (eqGuard .neq 51 a b (.agg (vl n1 s1).toArray) (.agg (vl n2 s2).toArray)).run Try.prog w = .ok () w := by simp [eqGuard]
  unfold execOp
  simp only [ho, h1, h2, Sem.run_bind, run_neq_vl, hg, Result.andThen_ok, Sem.run_pure]
theorem run_cell (fn : Func) (t T : Nat) (hr : fn.results = #[.cell t T]) (b : Nat) (cs : List Value) (w : World) (h2 : w.rangeAt b 0 cs) {d : TypeDesc} (hu : Try.prog.underlying T = some d) (hd : d.isRow = true) (hi : (Try.prog.info? T).map (·.size) = some cs.length)
    (tmps : Array Value) (e4 : tmps.getD t undef = .pointer (some ⟨b, 0, none⟩)) : (results fn tmps).run Try.prog w = .ok (.agg cs.toArray) w := by
  have hl : (loadVar T ⟨b, 0, none⟩).run Try.prog w = .ok (.agg cs.toArray) w := run_loadVar_mid (P := Try.prog) w b 0 T cs _ h2 hu hd hi
  have e4' : tmps[t]?.getD undef = .pointer (some ⟨b, 0, none⟩) := by simpa using e4
  simp [results, hr, e4', asAddr, hl]
/-- A field of an element. -/
def getN (o : El) (f : Int) : Int := if f = 0 then o.kind else if f = 1 then o.par else if f = 2 then o.ord else if f = 4 then o.frm else if f = 5 then o.to else 0
def getS (o : El) (f : Int) : ByteArray := if f = 3 then o.name else if f = 6 then o.ev else if f = 7 then o.gd else if f = 8 then o.ac else e0
def setV (o : El) (f : Int) (n : Int) (s : ByteArray) : El :=
  if f = 0 then { o with kind := n % 256 } else if f = 1 then { o with par := n } else if f = 2 then { o with ord := n } else if f = 3 then { o with name := s } else if f = 4 then { o with frm := n }
  else if f = 5 then { o with to := n } else if f = 6 then { o with ev := s } else if f = 7 then { o with gd := s } else if f = 8 then { o with ac := s } else o
def GetPost (w : World) (o : El) (f : Int) (e : Ending) (w' : World) : Prop := e = .returned (.agg (vl (getN o f) (getS o f)).toArray) ∧ Turn (fun _ => False) w w'

set_option maxHeartbeats 4000000 in
theorem get_any (w : World) (o : El) (f : Int) (hk : 0 ≤ o.kind ∧ o.kind ≤ 255) : Calls Try.prog 49 #[.agg o.vals.toArray, .int .i64 f] w (GetPost w o f) := by
  have hbx := box_alloc w 38 o.vals
  obtain ⟨X, hX⟩ : ∃ X, w.heap.size = X := ⟨_, rfl⟩
  obtain ⟨w1, hw1⟩ : ∃ w1, w.alloc (.cells o.vals.toArray 38) = w1 := ⟨_, rfl⟩
  rw [hw1] at hbx
  have hby := box_alloc w1 51 (vl 0 e0)
  obtain ⟨Y, hY⟩ : ∃ Y, w1.heap.size = Y := ⟨_, rfl⟩
  obtain ⟨w2, hw2⟩ : ∃ w2, w1.alloc (.cells (vl 0 e0).toArray 51) = w2 := ⟨_, rfl⟩
  rw [hw2] at hby
  have hx0 : ∀ ev op, op.op = .alloc 51 → (execOp ev op).run Try.prog w1 = .ok (.value (.pointer (some ⟨Y, 0, none⟩))) w2 := fun ev op ho => by rw [← hw2, ← hY]; exact exec_zero37 ev op ho _
  have hyh := hby.heap
  rw [hY] at hyh
  have hXY : Y = X + 1 := by rw [← hY, hbx.size, hX]
  have HYH := Lib.hid hyh
  have HT := Lib.hid (hbx.turn.trans hby.turn (fun _ _ => id))
  have hr := rangeAt_turn hbx.range hby.turn id
  rw [hX] at hr
  have HWS := Lib.hid (show w.heap.size < Y by omega)
  have HX0 := Lib.hid hx0
  have c0 : w2.cell? ⟨X, 0, none⟩ = some (.int .i64 o.id) := by have := hr 0 _ rfl; rwa [Nat.zero_add] at this
  have c1 : w2.cell? ⟨X, 1, none⟩ = some (.int .u8 o.kind) := by have := hr 1 _ rfl; rwa [Nat.zero_add] at this
  have c2 : w2.cell? ⟨X, 2, none⟩ = some (.int .i64 o.par) := by have := hr 2 _ rfl; rwa [Nat.zero_add] at this
  have c3 : w2.cell? ⟨X, 3, none⟩ = some (.int .i64 o.ord) := by have := hr 3 _ rfl; rwa [Nat.zero_add] at this
  have c4 : w2.cell? ⟨X, 4, none⟩ = some (.string o.name) := by have := hr 4 _ rfl; rwa [Nat.zero_add] at this
  have c5 : w2.cell? ⟨X, 5, none⟩ = some (.int .i64 o.frm) := by have := hr 5 _ rfl; rwa [Nat.zero_add] at this
  have c6 : w2.cell? ⟨X, 6, none⟩ = some (.int .i64 o.to) := by have := hr 6 _ rfl; rwa [Nat.zero_add] at this
  have c7 : w2.cell? ⟨X, 7, none⟩ = some (.string o.ev) := by have := hr 7 _ rfl; rwa [Nat.zero_add] at this
  have c8 : w2.cell? ⟨X, 8, none⟩ = some (.string o.gd) := by have := hr 8 _ rfl; rwa [Nat.zero_add] at this
  have c9 : w2.cell? ⟨X, 9, none⟩ = some (.string o.ac) := by have := hr 9 _ rfl; rwa [Nat.zero_add] at this
  have hwk : IntKind.i64.wrap o.kind = o.kind := by rw [IntKind.wrap_i64]; omega
  clear hbx hby hx0 hyh hr hXY hY hw2
  by_cases hf : 0 ≤ f ∧ f ≤ 8
  · have hcs : f = 0 ∨ f = 1 ∨ f = 2 ∨ f = 3 ∨ f = 4 ∨ f = 5 ∨ f = 6 ∨ f = 7 ∨ f = 8 := by omega
    clear hf
    rcases hcs with rfl | rfl | rfl | rfl | rfl | rfl | rfl | rfl | rfl
    · go_enter Try.func49, Try.ntmps49
      go_wp2_with (with_reducible (show wpList _ _ _ (Oper.mk (some 4) (.alloc 51) _ _ _ _ :: _) _ _); refine still ?_)
      refine list_exec rfl _ _ (HX0.out _ _ rfl) ?_
      go_wp2_with (with_reducible (show wpList _ _ _ (Oper.mk (some 11) _ _ _ _ _ :: _) _ _); refine still ?_)
      refine list_exec rfl _ _ (exec_vlN _ _ (.tmp 10) o.kind rfl rfl _) ?_
      go_wp2_with (with_reducible (show wpList _ _ _ (Oper.mk none (.store 51 (.tmp 4) (.tmp 11)) _ _ _ _ :: _) _ _); refine still ?_)
      refine list_put w2 Y 51 (vl 0 e0) (vl o.kind e0) HYH.out rfl (vl_one _ _) vl_info rfl (.tmp 4) (.tmp 11) rfl rfl rfl (fun w3 h3 t3 => ?_)
      have H3 := Lib.hid h3
      have HT3 := Lib.hid (HT.out.trans t3 (fun q hq e => by have := HWS.out; omega))
      clear h3 t3 c0 c1 c2 c3 c4 c5 c6 c7 c8 c9
      go_wp2_with fail
      refine bodyPost_ret (run_cell Try.f49 4 51 (by kernel_rfl) Y _ w3 (range_of H3.out) Try.underlying51 rfl vl_info _ rfl) rfl ?_
      exact ⟨by first | rfl | simp [getN, getS], HT3.out⟩
    · go_enter Try.func49, Try.ntmps49
      go_wp2_with (with_reducible (show wpList _ _ _ (Oper.mk (some 4) (.alloc 51) _ _ _ _ :: _) _ _); refine still ?_)
      refine list_exec rfl _ _ (HX0.out _ _ rfl) ?_
      go_wp2_with (with_reducible (show wpList _ _ _ (Oper.mk (some 16) _ _ _ _ _ :: _) _ _); refine still ?_)
      refine list_exec rfl _ _ (exec_vlN _ _ (.tmp 15) o.par rfl rfl _) ?_
      go_wp2_with (with_reducible (show wpList _ _ _ (Oper.mk none (.store 51 (.tmp 4) (.tmp 16)) _ _ _ _ :: _) _ _); refine still ?_)
      refine list_put w2 Y 51 (vl 0 e0) (vl o.par e0) HYH.out rfl (vl_one _ _) vl_info rfl (.tmp 4) (.tmp 16) rfl rfl rfl (fun w3 h3 t3 => ?_)
      have H3 := Lib.hid h3
      have HT3 := Lib.hid (HT.out.trans t3 (fun q hq e => by have := HWS.out; omega))
      clear h3 t3 c0 c1 c2 c3 c4 c5 c6 c7 c8 c9
      go_wp2_with fail
      refine bodyPost_ret (run_cell Try.f49 4 51 (by kernel_rfl) Y _ w3 (range_of H3.out) Try.underlying51 rfl vl_info _ rfl) rfl ?_
      exact ⟨by first | rfl | simp [getN, getS], HT3.out⟩
    · go_enter Try.func49, Try.ntmps49
      go_wp2_with (with_reducible (show wpList _ _ _ (Oper.mk (some 4) (.alloc 51) _ _ _ _ :: _) _ _); refine still ?_)
      refine list_exec rfl _ _ (HX0.out _ _ rfl) ?_
      go_wp2_with (with_reducible (show wpList _ _ _ (Oper.mk (some 21) _ _ _ _ _ :: _) _ _); refine still ?_)
      refine list_exec rfl _ _ (exec_vlN _ _ (.tmp 20) o.ord rfl rfl _) ?_
      go_wp2_with (with_reducible (show wpList _ _ _ (Oper.mk none (.store 51 (.tmp 4) (.tmp 21)) _ _ _ _ :: _) _ _); refine still ?_)
      refine list_put w2 Y 51 (vl 0 e0) (vl o.ord e0) HYH.out rfl (vl_one _ _) vl_info rfl (.tmp 4) (.tmp 21) rfl rfl rfl (fun w3 h3 t3 => ?_)
      have H3 := Lib.hid h3
      have HT3 := Lib.hid (HT.out.trans t3 (fun q hq e => by have := HWS.out; omega))
      clear h3 t3 c0 c1 c2 c3 c4 c5 c6 c7 c8 c9
      go_wp2_with fail
      refine bodyPost_ret (run_cell Try.f49 4 51 (by kernel_rfl) Y _ w3 (range_of H3.out) Try.underlying51 rfl vl_info _ rfl) rfl ?_
      exact ⟨by first | rfl | simp [getN, getS], HT3.out⟩
    · go_enter Try.func49, Try.ntmps49
      go_wp2_with (with_reducible (show wpList _ _ _ (Oper.mk (some 4) (.alloc 51) _ _ _ _ :: _) _ _); refine still ?_)
      refine list_exec rfl _ _ (HX0.out _ _ rfl) ?_
      go_wp2_with (with_reducible (show wpList _ _ _ (Oper.mk (some 26) _ _ _ _ _ :: _) _ _); refine still ?_)
      refine list_exec rfl _ _ (exec_vlS _ _ (.tmp 25) o.name rfl rfl _) ?_
      go_wp2_with (with_reducible (show wpList _ _ _ (Oper.mk none (.store 51 (.tmp 4) (.tmp 26)) _ _ _ _ :: _) _ _); refine still ?_)
      refine list_put w2 Y 51 (vl 0 e0) (vl 0 o.name) HYH.out rfl (vl_one _ _) vl_info rfl (.tmp 4) (.tmp 26) rfl rfl rfl (fun w3 h3 t3 => ?_)
      have H3 := Lib.hid h3
      have HT3 := Lib.hid (HT.out.trans t3 (fun q hq e => by have := HWS.out; omega))
      clear h3 t3 c0 c1 c2 c3 c4 c5 c6 c7 c8 c9
      go_wp2_with fail
      refine bodyPost_ret (run_cell Try.f49 4 51 (by kernel_rfl) Y _ w3 (range_of H3.out) Try.underlying51 rfl vl_info _ rfl) rfl ?_
      exact ⟨by first | rfl | simp [getN, getS], HT3.out⟩
    · go_enter Try.func49, Try.ntmps49
      go_wp2_with (with_reducible (show wpList _ _ _ (Oper.mk (some 4) (.alloc 51) _ _ _ _ :: _) _ _); refine still ?_)
      refine list_exec rfl _ _ (HX0.out _ _ rfl) ?_
      go_wp2_with (with_reducible (show wpList _ _ _ (Oper.mk (some 31) _ _ _ _ _ :: _) _ _); refine still ?_)
      refine list_exec rfl _ _ (exec_vlN _ _ (.tmp 30) o.frm rfl rfl _) ?_
      go_wp2_with (with_reducible (show wpList _ _ _ (Oper.mk none (.store 51 (.tmp 4) (.tmp 31)) _ _ _ _ :: _) _ _); refine still ?_)
      refine list_put w2 Y 51 (vl 0 e0) (vl o.frm e0) HYH.out rfl (vl_one _ _) vl_info rfl (.tmp 4) (.tmp 31) rfl rfl rfl (fun w3 h3 t3 => ?_)
      have H3 := Lib.hid h3
      have HT3 := Lib.hid (HT.out.trans t3 (fun q hq e => by have := HWS.out; omega))
      clear h3 t3 c0 c1 c2 c3 c4 c5 c6 c7 c8 c9
      go_wp2_with fail
      refine bodyPost_ret (run_cell Try.f49 4 51 (by kernel_rfl) Y _ w3 (range_of H3.out) Try.underlying51 rfl vl_info _ rfl) rfl ?_
      exact ⟨by first | rfl | simp [getN, getS], HT3.out⟩
    · go_enter Try.func49, Try.ntmps49
      go_wp2_with (with_reducible (show wpList _ _ _ (Oper.mk (some 4) (.alloc 51) _ _ _ _ :: _) _ _); refine still ?_)
      refine list_exec rfl _ _ (HX0.out _ _ rfl) ?_
      go_wp2_with (with_reducible (show wpList _ _ _ (Oper.mk (some 36) _ _ _ _ _ :: _) _ _); refine still ?_)
      refine list_exec rfl _ _ (exec_vlN _ _ (.tmp 35) o.to rfl rfl _) ?_
      go_wp2_with (with_reducible (show wpList _ _ _ (Oper.mk none (.store 51 (.tmp 4) (.tmp 36)) _ _ _ _ :: _) _ _); refine still ?_)
      refine list_put w2 Y 51 (vl 0 e0) (vl o.to e0) HYH.out rfl (vl_one _ _) vl_info rfl (.tmp 4) (.tmp 36) rfl rfl rfl (fun w3 h3 t3 => ?_)
      have H3 := Lib.hid h3
      have HT3 := Lib.hid (HT.out.trans t3 (fun q hq e => by have := HWS.out; omega))
      clear h3 t3 c0 c1 c2 c3 c4 c5 c6 c7 c8 c9
      go_wp2_with fail
      refine bodyPost_ret (run_cell Try.f49 4 51 (by kernel_rfl) Y _ w3 (range_of H3.out) Try.underlying51 rfl vl_info _ rfl) rfl ?_
      exact ⟨by first | rfl | simp [getN, getS], HT3.out⟩
    · go_enter Try.func49, Try.ntmps49
      go_wp2_with (with_reducible (show wpList _ _ _ (Oper.mk (some 4) (.alloc 51) _ _ _ _ :: _) _ _); refine still ?_)
      refine list_exec rfl _ _ (HX0.out _ _ rfl) ?_
      go_wp2_with (with_reducible (show wpList _ _ _ (Oper.mk (some 41) _ _ _ _ _ :: _) _ _); refine still ?_)
      refine list_exec rfl _ _ (exec_vlS _ _ (.tmp 40) o.ev rfl rfl _) ?_
      go_wp2_with (with_reducible (show wpList _ _ _ (Oper.mk none (.store 51 (.tmp 4) (.tmp 41)) _ _ _ _ :: _) _ _); refine still ?_)
      refine list_put w2 Y 51 (vl 0 e0) (vl 0 o.ev) HYH.out rfl (vl_one _ _) vl_info rfl (.tmp 4) (.tmp 41) rfl rfl rfl (fun w3 h3 t3 => ?_)
      have H3 := Lib.hid h3
      have HT3 := Lib.hid (HT.out.trans t3 (fun q hq e => by have := HWS.out; omega))
      clear h3 t3 c0 c1 c2 c3 c4 c5 c6 c7 c8 c9
      go_wp2_with fail
      refine bodyPost_ret (run_cell Try.f49 4 51 (by kernel_rfl) Y _ w3 (range_of H3.out) Try.underlying51 rfl vl_info _ rfl) rfl ?_
      exact ⟨by first | rfl | simp [getN, getS], HT3.out⟩
    · go_enter Try.func49, Try.ntmps49
      go_wp2_with (with_reducible (show wpList _ _ _ (Oper.mk (some 4) (.alloc 51) _ _ _ _ :: _) _ _); refine still ?_)
      refine list_exec rfl _ _ (HX0.out _ _ rfl) ?_
      go_wp2_with (with_reducible (show wpList _ _ _ (Oper.mk (some 46) _ _ _ _ _ :: _) _ _); refine still ?_)
      refine list_exec rfl _ _ (exec_vlS _ _ (.tmp 45) o.gd rfl rfl _) ?_
      go_wp2_with (with_reducible (show wpList _ _ _ (Oper.mk none (.store 51 (.tmp 4) (.tmp 46)) _ _ _ _ :: _) _ _); refine still ?_)
      refine list_put w2 Y 51 (vl 0 e0) (vl 0 o.gd) HYH.out rfl (vl_one _ _) vl_info rfl (.tmp 4) (.tmp 46) rfl rfl rfl (fun w3 h3 t3 => ?_)
      have H3 := Lib.hid h3
      have HT3 := Lib.hid (HT.out.trans t3 (fun q hq e => by have := HWS.out; omega))
      clear h3 t3 c0 c1 c2 c3 c4 c5 c6 c7 c8 c9
      go_wp2_with fail
      refine bodyPost_ret (run_cell Try.f49 4 51 (by kernel_rfl) Y _ w3 (range_of H3.out) Try.underlying51 rfl vl_info _ rfl) rfl ?_
      exact ⟨by first | rfl | simp [getN, getS], HT3.out⟩
    · go_enter Try.func49, Try.ntmps49
      go_wp2_with (with_reducible (show wpList _ _ _ (Oper.mk (some 4) (.alloc 51) _ _ _ _ :: _) _ _); refine still ?_)
      refine list_exec rfl _ _ (HX0.out _ _ rfl) ?_
      go_wp2_with (with_reducible (show wpList _ _ _ (Oper.mk (some 51) _ _ _ _ _ :: _) _ _); refine still ?_)
      refine list_exec rfl _ _ (exec_vlS _ _ (.tmp 50) o.ac rfl rfl _) ?_
      go_wp2_with (with_reducible (show wpList _ _ _ (Oper.mk none (.store 51 (.tmp 4) (.tmp 51)) _ _ _ _ :: _) _ _); refine still ?_)
      refine list_put w2 Y 51 (vl 0 e0) (vl 0 o.ac) HYH.out rfl (vl_one _ _) vl_info rfl (.tmp 4) (.tmp 51) rfl rfl rfl (fun w3 h3 t3 => ?_)
      have H3 := Lib.hid h3
      have HT3 := Lib.hid (HT.out.trans t3 (fun q hq e => by have := HWS.out; omega))
      clear h3 t3 c0 c1 c2 c3 c4 c5 c6 c7 c8 c9
      go_wp2_with fail
      refine bodyPost_ret (run_cell Try.f49 4 51 (by kernel_rfl) Y _ w3 (range_of H3.out) Try.underlying51 rfl vl_info _ rfl) rfl ?_
      exact ⟨by first | rfl | simp [getN, getS], HT3.out⟩
  · have hg : getN o f = 0 ∧ getS o f = e0 := by
      unfold getN getS
      rw [if_neg (by omega), if_neg (by omega), if_neg (by omega), if_neg (by omega), if_neg (by omega), if_neg (by omega), if_neg (by omega), if_neg (by omega), if_neg (by omega)]
      exact ⟨rfl, rfl⟩
    have HG := Lib.hid hg
    have d0 : (f == 0) = false := by simp; omega
    have d1 : (f == 1) = false := by simp; omega
    have d2 : (f == 2) = false := by simp; omega
    have d3 : (f == 3) = false := by simp; omega
    have d4 : (f == 4) = false := by simp; omega
    have d5 : (f == 5) = false := by simp; omega
    have d6 : (f == 6) = false := by simp; omega
    have d7 : (f == 7) = false := by simp; omega
    have d8 : (f == 8) = false := by simp; omega
    clear hg
    go_enter Try.func49, Try.ntmps49
    go_wp2_with (with_reducible (show wpList _ _ _ (Oper.mk (some 4) (.alloc 51) _ _ _ _ :: _) _ _); refine still ?_)
    refine list_exec rfl _ _ (HX0.out _ _ rfl) ?_
    go_wp2_with (with_reducible (show wpList _ _ _ (Oper.mk (some 52) _ _ _ _ _ :: _) _ _); refine still ?_)
    refine list_exec rfl _ _ (exec_vl0 _ _ rfl _) ?_
    go_wp2_with (with_reducible (show wpList _ _ _ (Oper.mk none (.store 51 (.tmp 4) (.tmp 52)) _ _ _ _ :: _) _ _); refine still ?_)
    refine list_put w2 Y 51 (vl 0 e0) (vl 0 e0) HYH.out rfl (vl_one _ _) vl_info rfl (.tmp 4) (.tmp 52) rfl rfl rfl (fun w3 h3 t3 => ?_)
    have H3 := Lib.hid h3
    have HT3 := Lib.hid (HT.out.trans t3 (fun q hq e => by have := HWS.out; omega))
    clear h3 t3 c0 c1 c2 c3 c4 c5 c6 c7 c8 c9
    go_wp2_with fail
    refine bodyPost_ret (run_cell Try.f49 4 51 (by kernel_rfl) Y _ w3 (range_of H3.out) Try.underlying51 rfl vl_info _ rfl) rfl ?_
    exact ⟨by rw [HG.out.1, HG.out.2], HT3.out⟩
end Go.Proofs.Ytkciaafkhpjnaaa
namespace Go.Proofs.Ytkciaafkhpjnaaa
set_option maxRecDepth 100000
open Go.RowKit
set_option linter.unusedVariables false
set_option linter.unusedSimpArgs false


def childE (l : List El) (nr : Int) : List Int := (l.filter (fun x => decide (x.par = nr))).map (·.id)
theorem childE_snoc (l : List El) (x : El) (nr : Int) : childE (l ++ [x]) nr = if x.par = nr then childE l nr ++ [x.id] else childE l nr := by
  unfold childE
  rw [List.filter_append, List.map_append]
  by_cases h : x.par = nr
  · have f : ([x] : List El).filter (fun y => decide (y.par = nr)) = [x] := List.filter_eq_self.2 (fun y hy => by rw [List.mem_singleton.1 hy, decide_eq_true h])
    rw [if_pos h, f]
    rfl
  · rw [if_neg h, filter_none (l := [x]) (fun y hy => by rw [List.mem_singleton.1 hy, decide_eq_false h]), List.map_nil, List.append_nil]
theorem childE_len (l : List El) (nr : Int) : (childE l nr).length ≤ l.length := by
  unfold childE
  rw [List.length_map]
  exact List.length_filter_le _ _
def NewInts (w : World) (xs : List Int) (e : Ending) (w' : World) : Prop := ∃ v, e = .returned v ∧ w'.ownsRow w.heap.size 3 1 v xs.length (xs.map (Value.int .i64)) ∧ Turn (fun _ => False) w w'
theorem own_slice3 {w : World} {base : Nat} {v : Value} {n : Nat} {xs : List Value} (h : w.ownsRow base 3 1 v n xs) : ∃ a c, v = .slice a n c := by
  rcases h.2 with ⟨rfl, rfl⟩ | ⟨g, cap', _, rfl, _⟩
  · exact ⟨_, _, rfl⟩
  · exact ⟨_, _, rfl⟩
theorem app_int (w : World) (base : Nat) (v : Value) (xs : List Int) (x : Int) (ho : w.ownsRow base 3 1 v xs.length (xs.map (Value.int .i64))) (hb : base ≤ w.heap.size) (hl : xs.length + 1 ≤ 1000000) :
    ∃ v' w', (Builtin.append_ #[45, 45] 45 #[v, .slice (some ⟨w.heap.size, 0, none⟩) 1 1]).run Try.prog (w.alloc (.cells #[.int .i64 x] 3)) = .ok v' w' ∧ w'.ownsRow base 3 1 v' (xs ++ [x]).length ((xs ++ [x]).map (Value.int .i64)) ∧ Turn (fun q => v.ownBlock = some q) w w' := by
  obtain ⟨i0, hi, hz0, hz1, hz2⟩ := info_parts (show (Try.prog.info? 3).map (fun i => (i.zero, i.size, i.bytes)) = some (some (.int .i64 0), 1, 8) by kernel_rfl)
  have tb := (box_alloc w 3 [.int .i64 x]).turn
  have h1 := tb.owns ho (fun _ _ => id)
  obtain ⟨v', w', hr, q1, q2, q3⟩ := run_append_own (P := Try.prog) (w.alloc (.cells #[.int .i64 x] 3)) base 45 45 3 i0 _ 1 8 Try.underlying45 hi hz0 hz1 hz2 rfl (by decide) v xs.length _ h1 ⟨w.heap.size, 0, none⟩ 1 1 [.int .i64 x] rfl (fun j u hj => by
    match j, hj with
    | 0, hj => simp at hj; subst hj; simp [Addr.add]) (fun u hu => by simp at hu; subst hu; rfl) (by unfold maxLen; omega) (by omega) (Nat.le_trans hb tb.size)
  refine ⟨v', w', hr, by simpa using q1, (tb.mono (fun _ _ h => h.elim)).trans ((Turn.refl (fun q => v.ownBlock = some q) _).grown q2 (fun k h _ => h)) (fun _ _ h => h)⟩
theorem turn_on3 {w0 w w' : World} {base : Nat} {v : Value} {n : Nat} {xs : List Value} (h : w.ownsRow base 3 1 v n xs) (hb : w0.heap.size ≤ base) (t : Turn (fun _ => False) w0 w) (t' : Turn (fun q => v.ownBlock = some q) w w') : Turn (fun _ => False) w0 w' :=
  t.trans t' (fun i hi hv => by have := (h.lt i hv).1; omega)
set_option maxHeartbeats 4000000 in
theorem children_any (w : World) (v : Value) (l : List El) (nr : Int) (hv : RowV w v l) (hb : l.length ≤ 1000) : Calls Try.prog 66 #[v, .int .i64 nr] w (NewInts w (childE l nr)) := by
  obtain ⟨la, lc, rfl⟩ := hv.form
  obtain ⟨n, hn⟩ : ∃ n, l.length = n := ⟨_, rfl⟩
  rw [hn] at hv hb
  simp only [hn]
  have HV := Lib.hid hv
  have HN := Lib.hid hn
  clear hv hn
  go_enter Try.func66, Try.ntmps66
  go_wp2_with fail
  go_loopw [5, 10] (fun sv iv wr => ∃ k : Nat, k ≤ n ∧ iv = .int .i64 (k : Int) ∧ wr.ownsRow w.heap.size 3 1 sv (childE (l.take k) nr).length ((childE (l.take k) nr).map (Value.int .i64)) ∧ Turn (fun _ => False) w wr) (fun _ iv _ => n - (intOf iv).toNat)
  case atStart => exact ⟨0, Nat.zero_le _, rfl, World.ownsRow_nil _ _ _ _, Turn.refl _ _⟩
  case round =>
    obtain ⟨k, hk, rfl, ho, htr⟩ := hrel
    have HO := Lib.hid ho
    have HT := Lib.hid htr
    clear ho htr
    by_cases hlt : k < n
    · have hsn := take_snoc l k (by rw [HN.out]; exact hlt)
      obtain ⟨g, o, rfl, hc, hs1⟩ := (HV.out.turn HT.out (fun _ _ => id)).one HN.out k hlt
      have gi : (0 : Int) ≤ (k : Int) ∧ (k : Int) < (n : Int) := by omega
      have dk : decide ((k : Int) < (n : Int)) = true := decide_eq_true (by omega)
      generalize hx : l.getD k el0 = x at *
      have HS1 := Lib.hid hs1
      have hst := childE_snoc (l.take k) x nr
      rw [← hsn] at hst
      have HST := Lib.hid hst
      clear hx hs1 hsn hst
      have hbb := box_alloc wr 38 el0.vals
      obtain ⟨B, hB⟩ : ∃ B, wr.heap.size = B := ⟨_, rfl⟩
      obtain ⟨wz, hwz⟩ : ∃ wz, wr.alloc (.cells el0.vals.toArray 38) = wz := ⟨_, rfl⟩
      have hx0 : ∀ ev op, op.op = .alloc 38 → (execOp ev op).run Try.prog wr = .ok (.value (.pointer (some ⟨B, 0, none⟩))) wz := fun ev op ho => by rw [← hwz, ← hB]; exact exec_zero24 ev op ho _
      rw [hwz] at hbb
      have hhh := hbb.heap
      rw [hB] at hhh
      have HX0 := Lib.hid hx0
      have HBB := Lib.hid hbb
      have HHB := Lib.hid hhh
      have HBE := Lib.hid hB
      clear hbb hB hwz hx0 hhh
      go_wp2_with (with_reducible (show wpList _ _ _ (Oper.mk (some 13) (.load 38 (.tmp 12)) _ _ _ _ :: _) _ _); refine still ?_)
      refine wpList_load_mid rfl 38 (.tmp 12) rfl g (o + k * 10) rfl x.vals _ HS1.out Try.underlying38 rfl el_info ?_
      go_wp2_with (with_reducible (show wpList _ _ _ (Oper.mk (some 7) (.alloc 38) _ _ _ _ :: _) _ _); refine still ?_)
      refine list_exec rfl _ _ (HX0.out _ _ rfl) ?_
      go_wp2_with (with_reducible (show wpList _ _ _ (Oper.mk none (.store 38 (.tmp 7) (.tmp 13)) _ _ _ _ :: _) _ _); refine still ?_)
      refine list_put wz B 38 el0.vals x.vals HHB.out rfl x.vals_one el_info rfl (.tmp 7) (.tmp 13) rfl rfl rfl (fun w2 h2 t2 => ?_)
      have T2 := Lib.hid (HBB.out.turn.trans t2 (fun q hq e => by have := HBE.out; omega))
      have HTT := Lib.hid (HT.out.trans T2.out (fun _ _ => id))
      have HO2 := Lib.hid (T2.out.owns HO.out (fun _ _ => id))
      have c0 : w2.cell? ⟨B, 0, none⟩ = some (.int .i64 x.id) := by rw [cell_of_row w2 B 0 _ 38 (0, 0) h2]; rfl
      have c2 : w2.cell? ⟨B, 2, none⟩ = some (.int .i64 x.par) := by rw [cell_of_row w2 B 2 _ 38 (0, 0) h2]; rfl
      clear h2 t2
      by_cases he : x.par = nr
      · have d1 : (x.par == nr) = true := by simpa using he
        have HE := Lib.hid he
        clear he
        obtain ⟨va, wa, hra, hoa, tta⟩ := app_int w2 w.heap.size _ (childE (l.take k) nr) x.id HO2.out HTT.out.size (by have := childE_len (l.take k) nr; have : (l.take k).length ≤ k := List.length_take_le _ _; omega)
        have HRa := Lib.hid hra
        have HOa := Lib.hid hoa
        have HTa := Lib.hid (turn_on3 HO2.out (Nat.le_refl _) HTT.out tta)
        clear hra hoa tta
        go_wp2_with (with_reducible (show wpList _ _ _ (Oper.mk (some 22) _ _ _ _ _ :: _) _ _); refine still ?_)
        refine list_exec rfl _ _ (exec_append _ _ (.tmp 18) (.tmp 21) 45 rfl _ _ _ _ _ rfl rfl HRa.out) ?_
        clear c0 c2
        go_wp2_with fail
        go_roundw
        case rel => exact ⟨k + 1, by omega, by go_num, by rw [HST.out, if_pos HE.out]; exact HOa.out, HTa.out⟩
        case measure => simp [intOf]; omega
      · have d1 : (x.par == nr) = false := by simpa using he
        have HE := Lib.hid he
        clear he
        go_wp2_with fail
        go_roundw
        case rel => exact ⟨k + 1, by omega, by go_num, by rw [HST.out, if_neg HE.out]; exact HO2.out, HTT.out⟩
        case measure => simp [intOf]; omega
    · have hke : k = n := by omega
      have dk : decide ((k : Int) < (n : Int)) = false := decide_eq_false (by omega)
      have hto : l.take k = l := List.take_of_length_le (by rw [HN.out]; omega)
      have HTO := Lib.hid hto
      clear hto
      go_wp2_with fail
      go_ret
      refine ⟨_, rfl, ?_, HT.out⟩
      have := HO.out
      rwa [HTO.out] at this
theorem elsV_split (C : List El) (i : Nat) (hi : i < C.length) : elsV C = (elsV C).take (i * 10) ++ (C.getD i el0).vals ++ (elsV C).drop (i * 10 + 10) := by
  have := elsV_set C (C.getD i el0) i hi
  rwa [show C.set i (C.getD i el0) = C by apply List.ext_getElem (by simp); intro j h1 h2; rw [List.getElem_set]; split; (rename_i h; subst h; simp [List.getD, hi]); rfl] at this
/-- A field of a row of one's own is written. -/
theorem own_setPar {w : World} {base g cap n : Nat} {C : List El} (h : w.ownsRow base 38 10 (.slice (some ⟨g, 0, none⟩) n cap) n (elsV C)) (hn : C.length = n) (i : Nat) (hi : i < n) (p : Int) :
    (w.setCell ⟨g, i * 10 + 2, none⟩ (.int .i64 p)).ownsRow base 38 10 (.slice (some ⟨g, 0, none⟩) n cap) n (elsV (C.set i { C.getD i el0 with par := p })) ∧ w.frozen? ⟨g, i * 10 + 2, none⟩ = false := by
  rcases h.2 with ⟨h1, _⟩ | ⟨g', cap', cur, h1, h2, h3, h4, h5, h6, h7⟩
  · cases h1
  · injection h1 with q1 q2 q3
    injection q1 with q1
    injection q1 with q1 _ _
    subst q1 q3
    refine ⟨⟨?_, .inr ⟨g, cap, cur.setIfInBounds (i * 10 + 2) (.int .i64 p), rfl, h2, heap_setCell_same w g (i * 10 + 2) cur 38 _ h3, h4, h5, by simpa using h6, ?_⟩⟩, ?_⟩
    · rw [elsV_len, List.length_set, hn]; omega
    · have hl := elsV_len C
      rw [Array.toList_setIfInBounds, List.take_set, h7, elsV_set C _ i (by omega)]
      conv => lhs; arg 1; rw [elsV_split C i (by omega)]
      rw [List.set_append_left _ _ (by simp only [List.length_append, List.length_take, El.vlen]; omega), List.set_append_right _ _ (by simp only [List.length_take]; omega)]
      have e : i * 10 + 2 - ((elsV C).take (i * 10)).length = 2 := by rw [List.length_take]; omega
      rw [e]
      rfl
    · have : w.heap[g]? = some (.cells cur.toList.toArray 38 (0, 0)) := by simpa using h3
      exact frozen_of_row w g _ _ 38 this
end Go.Proofs.Ytkciaafkhpjnaaa
