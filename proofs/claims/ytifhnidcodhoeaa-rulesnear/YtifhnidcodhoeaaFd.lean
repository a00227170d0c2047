/- Own contracts: an element is found, and dropped. No statement is proved here. -/
import Derived.Test.YtifhnidcodhoeaaPt
namespace Go.Proofs.Ytifhnidcodhoeaa
set_option maxRecDepth 100000
open Go.RowKit
set_option linter.unusedVariables false
set_option linter.unusedSimpArgs false


section
variable {P : Program} {ops : Array Oper} {Q : Exit → Act → World → Prop} {a : Act} {o : Oper} {rest : List Oper}
/-- A whole variable is written. -/
theorem list_put (w : World) (B : Nat) (T : TypeId) (zs cs : List Value) (hh : w.heap[B]? = some (.cells zs.toArray T (0, 0))) (hl : zs.length = cs.length) (h1 : ∀ v ∈ cs, v.oneCell' = true) (hi : (P.info? T).map (·.size) = some cs.length)
    (hgd : o.guard = none) (x y : Operand) (ho : o.op = .store T x y) (hx : a.eval x = .pointer (some ⟨B, 0, none⟩)) (hy : a.eval y = .agg cs.toArray)
    (h : ∀ w', w'.heap[B]? = some (.cells cs.toArray T (0, 0)) → Turn (fun q => q = B) w w' → wpList P ops Q rest (a.put o.dst undef) w') : wpList P ops Q (o :: rest) a w := by
  refine wpList_store_mid hgd T x y ho B 0 cs.toArray hx hy (by have := there_row hh; rw [hl] at this; simpa using this) (by simpa using hi) (all_oneCell_toArray h1) (h _ ?_ (turn_setCells B cs 0 w))
  have := heap_setCells B T cs 0 w zs hh (by omega)
  rw [this]
  simp [hl]
end
theorem range_of {w : World} {B : Nat} {T : TypeId} {cs : List Value} (h : w.heap[B]? = some (.cells cs.toArray T (0, 0))) : w.rangeAt B 0 cs := fun j v hj => by rw [Nat.zero_add, cell_of_row w _ j _ T (0, 0) h]; simpa using hj
theorem exec_zero24 (ev : Operand → Value) (op : Oper) (ho : op.op = .alloc 35) (w : World) : (execOp ev op).run Try.prog w = .ok (.value (.pointer (some ⟨w.heap.size, 0, none⟩))) (w.alloc (.cells el0.vals.toArray 35)) := by
  unfold execOp
  simp only [ho, Sem.run_bind, el_zero, Result.andThen_ok]
  rfl
theorem exec_build24 (ev : Operand → Value) (op : Oper) (ho : op.op = .build 35 #[]) (w : World) : (execOp ev op).run Try.prog w = .ok (.value (.agg el0.vals.toArray)) w := by
  unfold execOp
  simp only [ho, List.map_toArray, List.map_nil, Sem.run_bind, Sem.run_pure, el_build0, Result.andThen_ok]
theorem find_results (w : World) (b : Nat) (x : El) (r : Bool) (h2 : w.rangeAt b 0 x.vals) (tmps : Array Value) (e4 : tmps.getD 4 undef = .pointer (some ⟨b, 0, none⟩)) (e5 : tmps.getD 5 undef = .bool r) :
    (results Try.f39 tmps).run Try.prog w = .ok (.tuple #[.agg x.vals.toArray, .bool r]) w := by
  have hl : (loadVar 35 ⟨b, 0, none⟩).run Try.prog w = .ok (.agg x.vals.toArray) w := run_loadVar_mid (P := Try.prog) w b 0 35 x.vals _ h2 Try.underlying35 rfl el_info
  have hr : Try.f39.results = #[.cell 4 35, .tmp 5] := by kernel_rfl
  have e4' : tmps[4]?.getD undef = .pointer (some ⟨b, 0, none⟩) := by simpa using e4
  have e5' : tmps[5]?.getD undef = .bool r := by simpa using e5
  simp [results, hr, e4', e5', asAddr, hl]
/-- What Find tells. -/
def findX (l : List El) (nr : Int) (p : Nat) : El := if thereB l nr p = true then l.getD p el0 else el0
def FindPost (w : World) (l : List El) (nr : Int) (e : Ending) (w' : World) : Prop := ∃ p : Nat, IsPlace l nr p ∧ e = .returned (.tuple #[.agg (findX l nr p).vals.toArray, .bool (thereB l nr p)]) ∧ Turn (fun _ => False) w w'
set_option maxHeartbeats 1600000 in
theorem find_any (w : World) (v : Value) (l : List El) (nr : Int) (hv : RowV w v l) (hr : Rises l) (hb : l.length ≤ 1000) : Calls Try.prog 39 #[v, .int .i64 nr] w (FindPost w l nr) := by
  obtain ⟨la, lc, rfl⟩ := hv.form
  obtain ⟨n, hn⟩ : ∃ n, l.length = n := ⟨_, rfl⟩
  rw [hn] at hv hb
  simp only [hn]
  have hbx := box_alloc w 35 el0.vals
  obtain ⟨w1, hw1⟩ : ∃ w1, w.alloc (.cells el0.vals.toArray 35) = w1 := ⟨_, rfl⟩
  have hx0 : ∀ ev op, op.op = .alloc 35 → (execOp ev op).run Try.prog w = .ok (.value (.pointer (some ⟨w.heap.size, 0, none⟩))) w1 := fun ev op ho => by rw [← hw1]; exact exec_zero24 ev op ho w
  rw [hw1] at hbx
  have HX0 := Lib.hid hx0
  have HB := Lib.hid hbx
  have HV := Lib.hid hv
  have HN := Lib.hid hn
  have HR := Lib.hid hr
  clear hbx hv hn hr hw1 hx0
  go_enter Try.func39, Try.ntmps39
  go_wp2_with (with_reducible (show wpList _ _ _ (Oper.mk (some 4) (.alloc 35) _ _ _ _ :: _) _ _); refine still ?_)
  refine list_exec rfl _ _ (HX0.out _ _ rfl) ?_
  go_wp2_with fail
  refine (place_any w1 _ l nr (HV.out.turn HB.out.turn (fun _ _ => id)) HR.out (by rw [HN.out]; omega)).mono ?_
  rintro r w2 ⟨p, hp, rfl, t2⟩
  have HPL := Lib.hid hp
  have HT2 := Lib.hid (HB.out.turn.trans t2 (fun _ _ => id))
  have HH := Lib.hid ((t2.block _ (by rw [HB.out.size]; exact Nat.lt_succ_self _) id).trans HB.out.heap)
  clear t2 hp
  cases hth : thereB l nr p
  · have hfx : findX l nr p = el0 := by unfold findX; rw [hth]; rfl
    have HTH := Lib.hid hth
    have HFX := Lib.hid hfx
    clear hth hfx
    go_wp2_with (with_reducible (show wpList _ _ _ (Oper.mk (some 16) (.build 35 #[]) _ _ _ _ :: _) _ _); refine still ?_)
    refine list_exec rfl _ _ (exec_build24 _ _ rfl _) ?_
    go_wp2_with (with_reducible (show wpList _ _ _ (Oper.mk none (.store 35 (.tmp 4) (.tmp 16)) _ _ _ _ :: _) _ _); refine still ?_)
    refine list_put w2 w.heap.size 35 el0.vals el0.vals HH.out rfl el0.vals_one el_info rfl (.tmp 4) (.tmp 16) rfl rfl rfl (fun w3 h3 t3 => ?_)
    have H3 := Lib.hid h3
    have HT3 := Lib.hid (HT2.out.trans t3 (fun q hq e => by omega))
    clear h3 t3
    go_wp2_with fail
    refine bodyPost_ret (find_results w3 w.heap.size el0 false (range_of H3.out) _ rfl rfl) rfl ?_
    exact ⟨p, HPL.out, by rw [HTH.out, HFX.out], HT3.out⟩
  · have hfx : findX l nr p = l.getD p el0 := by unfold findX; rw [hth]; rfl
    have hpn : p < n := by
      have := hth
      unfold thereB at this
      rw [HN.out] at this
      exact (of_decide_eq_true this).1
    have HTH := Lib.hid hth
    have HFX := Lib.hid hfx
    obtain ⟨b, o, rfl, hc, hs1⟩ := (HV.out.turn HT2.out (fun _ _ => id)).one HN.out p hpn
    have gi : (0 : Int) ≤ (p : Int) ∧ (p : Int) < (n : Int) := by omega
    clear hth hfx
    generalize hx : l.getD p el0 = x at *
    have HX := Lib.hid hx
    clear hx
    go_wp2_with (with_reducible (show wpList _ _ _ (Oper.mk (some 20) (.load 35 (.tmp 19)) _ _ _ _ :: _) _ _); refine still ?_)
    refine wpList_load_mid rfl 35 (.tmp 19) rfl b (o + p * 10) rfl x.vals _ hs1 Try.underlying35 rfl el_info ?_
    go_wp2_with (with_reducible (show wpList _ _ _ (Oper.mk none (.store 35 (.tmp 4) (.tmp 20)) _ _ _ _ :: _) _ _); refine still ?_)
    refine list_put w2 w.heap.size 35 el0.vals x.vals HH.out rfl x.vals_one el_info rfl (.tmp 4) (.tmp 20) rfl rfl rfl (fun w3 h3 t3 => ?_)
    have H3 := Lib.hid h3
    have HT3 := Lib.hid (HT2.out.trans t3 (fun q hq e => by omega))
    clear h3 t3 hs1
    go_wp2_with fail
    refine bodyPost_ret (find_results w3 w.heap.size x true (range_of H3.out) _ rfl rfl) rfl ?_
    exact ⟨p, HPL.out, by rw [HTH.out, HFX.out], HT3.out⟩
end Go.Proofs.Ytifhnidcodhoeaa
