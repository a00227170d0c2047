/- Own contracts: which values fit; the document's field. No statement is proved here. -/
import Derived.Test.YtbokdgcdkmnldaaWi
namespace Go.Proofs.Ytbokdgcdkmnldaa
set_option maxRecDepth 100000
open Go.RowKit
set_option linter.unusedVariables false
set_option linter.unusedSimpArgs false


def fitsB (f n : Int) (s : ByteArray) : Bool := decide (0 ≤ f ∧ f < 9) && decide (getN (setV el0 f n s) f = n ∧ getS (setV el0 f n s) f = s)
theorem setV_kind (o : El) (hk : 0 ≤ o.kind ∧ o.kind ≤ 255) (f n : Int) (s : ByteArray) : 0 ≤ (setV o f n s).kind ∧ (setV o f n s).kind ≤ 255 := by
  unfold setV
  split
  · show 0 ≤ n % 256 ∧ n % 256 ≤ 255; omega
  · repeat' (split; exact hk)
    exact hk
set_option maxHeartbeats 4000000 in
theorem fits_any (w : World) (f n : Int) (s : ByteArray) : Calls Try.prog 40 #[.int .i64 f, .agg (vl n s).toArray] w fun e w' => e = .returned (.bool (fitsB f n s)) ∧ Turn (fun _ => False) w w' := by
  have hbx := box_alloc w 26 (vl n s)
  obtain ⟨X, hX⟩ : ∃ X, w.heap.size = X := ⟨_, rfl⟩
  obtain ⟨w1, hw1⟩ : ∃ w1, w.alloc (.cells (vl n s).toArray 26) = w1 := ⟨_, rfl⟩
  rw [hw1] at hbx
  have HXR := Lib.hid (show w1.rangeAt X 0 (vl n s) from hX ▸ hbx.range)
  have HT := Lib.hid hbx.turn
  clear hbx
  by_cases h1 : f < 0
  · have hb : fitsB f n s = false := by unfold fitsB; rw [decide_eq_false (by omega)]; rfl
    rw [hb]
    have d1 : decide (f < 0) = true := decide_eq_true h1
    clear hb
    go_enter Try.func40, Try.ntmps40
    go_wp2_with fail
    go_ret
    exact ⟨rfl, HT.out⟩
  · have d1 : decide (f < 0) = false := decide_eq_false h1
    by_cases h2 : 9 ≤ f
    · have hb : fitsB f n s = false := by unfold fitsB; rw [decide_eq_false (by omega)]; rfl
      rw [hb]
      have d2 : decide (9 ≤ f) = true := decide_eq_true h2
      clear hb
      go_enter Try.func40, Try.ntmps40
      go_wp2_with fail
      go_ret
      exact ⟨rfl, HT.out⟩
    · have d2 : decide (9 ≤ f) = false := decide_eq_false h2
      have hb : fitsB f n s = decide (getN (setV el0 f n s) f = n ∧ getS (setV el0 f n s) f = s) := by unfold fitsB; rw [decide_eq_true (by omega), Bool.true_and]
      have HBB := Lib.hid hb
      have hkk := setV_kind el0 (by decide) f n s
      clear hb h1 h2
      go_enter Try.func40, Try.ntmps40
      go_wp2_with fail
      refine wp_region_held_drew (S := fun wq => wq.rangeAt X 0 (vl n s)) (by kernel_rfl) HXR.out (fun hHeld => ?_)
      refine wpAnyH_take (i := 0) (v := .agg el0.vals.toArray) rfl (by kernel_rfl) (by kernel_rfl) (by kernel_rfl) (fun _ _ _ h => h) (Or.inl ⟨by rfl, ?yq1⟩) (by assumption) ?rq1
      case yq1 => (intro wq hSw; exact exec_build24 _ _ rfl _)
      case rq1 =>
      try simp only [Act.put, List.setIfInBounds_toArray, List.set_cons_zero, List.set_cons_succ, List.getElem_toArray, List.getElem_cons_zero, List.getElem_cons_succ]
      refine wpAnyH_take (i := 1) (v := .int .i64 f) rfl (by kernel_rfl) (by kernel_rfl) (by kernel_rfl) (fun _ _ _ h => h) (Or.inl ⟨by rfl, ?yq2⟩) (by assumption) ?rq2
      case yq2 => (intro wq hSw; (try simp only [List.getElem_toArray, List.getElem_cons_zero, List.getElem_cons_succ]); go_simp; (try with_reducible rfl); all_goals (try omega))
      case rq2 =>
      try simp only [Act.put, List.setIfInBounds_toArray, List.set_cons_zero, List.set_cons_succ, List.getElem_toArray, List.getElem_cons_zero, List.getElem_cons_succ]
      refine wpAnyH_take (i := 2) (v := .agg (vl n s).toArray) rfl (by kernel_rfl) (by kernel_rfl) (by kernel_rfl) (fun _ _ _ h => h) (Or.inl ⟨by rfl, ?yq3⟩) (by assumption) ?rq3
      case yq3 => (intro wq hSw; exact exec_load_mid _ _ 26 (.tmp 3) rfl X 0 rfl (vl n s) _ _ hSw Try.underlying26 rfl vl_info)
      case rq3 =>
      try simp only [Act.put, List.setIfInBounds_toArray, List.set_cons_zero, List.set_cons_succ, List.getElem_toArray, List.getElem_cons_zero, List.getElem_cons_succ]
      refine wpAnyH_take (i := 4) (v := .int .i64 f) rfl (by kernel_rfl) (by kernel_rfl) (by kernel_rfl) (fun _ _ _ h => h) (Or.inl ⟨by rfl, ?yq4⟩) (by assumption) ?rq4
      case yq4 => (intro wq hSw; (try simp only [List.getElem_toArray, List.getElem_cons_zero, List.getElem_cons_succ]); go_simp; (try with_reducible rfl); all_goals (try omega))
      case rq4 =>
      try simp only [Act.put, List.setIfInBounds_toArray, List.set_cons_zero, List.set_cons_succ, List.getElem_toArray, List.getElem_cons_zero, List.getElem_cons_succ]
      refine wpAnyH_take (i := 6) (v := .agg (vl n s).toArray) rfl (by kernel_rfl) (by kernel_rfl) (by kernel_rfl) (fun _ _ _ h => h) (Or.inl ⟨by rfl, ?yq5⟩) (by assumption) ?rq5
      case yq5 => (intro wq hSw; exact exec_load_mid _ _ 26 (.tmp 3) rfl X 0 rfl (vl n s) _ _ hSw Try.underlying26 rfl vl_info)
      case rq5 =>
      try simp only [Act.put, List.setIfInBounds_toArray, List.set_cons_zero, List.set_cons_succ, List.getElem_toArray, List.getElem_cons_zero, List.getElem_cons_succ]
      refine wpAnyH_ready (rs := [3]) (by kernel_rfl) (by simp) ?_
      refine AllReadyH.cons rfl (fun K hK => ?_) AllReadyH.nil
      go_simp
      refine (with_any w1.drew el0 f n s).mono ?_
      rintro r w2 ⟨rfl, t2⟩
      have HT2 := Lib.hid t2
      have HX2 := Lib.hid (rangeAt_turn (rangeAt_turn HXR.out ((Turn.refl (fun _ => False) w1).drew) id) t2 id)
      clear t2
      refine hK.out _ _ HX2.out (fun _ => ?_)
      clear hK K
      try simp only [Act.put, List.setIfInBounds_toArray, List.set_cons_zero, List.set_cons_succ, List.getElem_toArray, List.getElem_cons_zero, List.getElem_cons_succ]
      refine wpAnyH_ready (rs := [5]) (by kernel_rfl) (by simp) ?_
      refine AllReadyH.cons rfl (fun K hK => ?_) AllReadyH.nil
      go_simp
      refine (get_any w2 (setV el0 f n s) f hkk).mono ?_
      rintro r w3 ⟨rfl, t3⟩
      have HT3 := Lib.hid (HT2.out.trans t3 (fun _ _ => id))
      have HX3 := Lib.hid (rangeAt_turn HX2.out t3 id)
      clear t3
      refine hK.out _ _ HX3.out (fun _ => ?_)
      clear hK K
      try simp only [Act.put, List.setIfInBounds_toArray, List.set_cons_zero, List.set_cons_succ, List.getElem_toArray, List.getElem_cons_zero, List.getElem_cons_succ]
      refine wpAnyH_take (i := 7) (v := .bool (decide (getN (setV el0 f n s) f = n ∧ getS (setV el0 f n s) f = s))) rfl (by kernel_rfl) (by kernel_rfl) (by kernel_rfl) (fun _ _ _ h => h) (Or.inl ⟨by rfl, ?yq6⟩) (by assumption) ?rq6
      case yq6 => (intro wq hSw; exact exec_eql_vl _ _ rfl _ _ _ _ wq rfl rfl)
      case rq6 =>
      try simp only [Act.put, List.setIfInBounds_toArray, List.set_cons_zero, List.set_cons_succ, List.getElem_toArray, List.getElem_cons_zero, List.getElem_cons_succ]
      refine wpAnyH_take (i := 8) (v := .bool (decide (getN (setV el0 f n s) f = n ∧ getS (setV el0 f n s) f = s))) rfl (by kernel_rfl) (by kernel_rfl) (by kernel_rfl) (fun _ _ _ h => h) (Or.inl ⟨by rfl, ?yq7⟩) (by assumption) ?rq7
      case yq7 => (intro wq hSw; (try simp only [List.getElem_toArray, List.getElem_cons_zero, List.getElem_cons_succ]); go_simp; (try with_reducible rfl); all_goals (try omega))
      case rq7 =>
      try simp only [Act.put, List.setIfInBounds_toArray, List.set_cons_zero, List.set_cons_succ, List.getElem_toArray, List.getElem_cons_zero, List.getElem_cons_succ]
      refine wpAnyH_done (by kernel_rfl) ?_ _
      clear hHeld
      obtain ⟨bb, hbb⟩ : ∃ bb, decide (getN (setV el0 f n s) f = n ∧ getS (setV el0 f n s) f = s) = bb := ⟨_, rfl⟩
      rw [hbb]
      have HB := Lib.hid hbb
      clear hbb hkk
      go_wp2_with fail
      go_ret
      refine ⟨by rw [HBB.out, HB.out]; rfl, HT.out.trans (((Turn.refl (fun _ => False) w1).drew).trans HT3.out (fun _ _ => id)) (fun _ _ => id)⟩

theorem wp_put_var {P : Program} {o : Oper} {a : Act} {K : Act → World → Prop} {Q : Exit → Act → World → Prop} (w : World) (B : Nat) (T : TypeId) (zs cs : List Value) (hh : w.heap[B]? = some (.cells zs.toArray T (0, 0))) (hl : zs.length = cs.length) (h1 : ∀ v ∈ cs, v.oneCell' = true) (hi : (P.info? T).map (·.size) = some cs.length)
    (x y : Operand) (ho : o.op = .store T x y) (hx : a.eval x = .pointer (some ⟨B, 0, none⟩)) (hy : a.eval y = .agg cs.toArray)
    (h : ∀ w', w'.heap[B]? = some (.cells cs.toArray T (0, 0)) → Turn (fun q => q = B) w w' → K (a.put o.dst undef) w') : o.wp P a w K Q := by
  refine wp_store_mid T x y ho B 0 cs.toArray hx hy (by have := there_row hh; rw [hl] at this; simpa using this) (by simpa using hi) (all_oneCell_toArray h1) (h _ ?_ (turn_setCells B cs 0 w))
  have := heap_setCells B T cs 0 w zs hh (by omega)
  rw [this]
  simp [hl]
theorem info3p : (Try.prog.info? 3).map (fun i => (i.zero, i.size, i.bytes)) = some (some (.int .i64 0), 1, 8) := by kernel_rfl
theorem info9p : (Try.prog.info? 9).map (fun i => (i.zero, i.size, i.bytes)) = some (some (.string e0), 1, 16) := by kernel_rfl
def nsV (o : El) : List Value := [.int .i64 o.kind, .int .i64 o.par, .int .i64 o.ord, .int .i64 0, .int .i64 o.frm, .int .i64 o.to, .int .i64 0, .int .i64 0, .int .i64 0]
def ssV (o : El) : List Value := [.string e0, .string e0, .string e0, .string o.name, .string e0, .string e0, .string o.ev, .string o.gd, .string o.ac]
theorem build_ns (a b c d e : Int) (w : World) : (Instr.buildSlice 70 9 #[(0, .int .i64 a), (1, .int .i64 b), (2, .int .i64 c), (3, .int .i64 0), (4, .int .i64 d), (5, .int .i64 e), (6, .int .i64 0), (7, .int .i64 0), (8, .int .i64 0)]).run Try.prog w = .ok (.slice (some ⟨w.heap.size, 0, none⟩) 9 9) (w.alloc (.cells #[.int .i64 a, .int .i64 b, .int .i64 c, .int .i64 0, .int .i64 d, .int .i64 e, .int .i64 0, .int .i64 0, .int .i64 0] 3)) := by
  obtain ⟨i0, hi, hz0, hz1, hz2⟩ := info_parts info3p
  refine run_buildSlice (P := Try.prog) w 70 3 9 _ _ i0 _ Try.underlying70 hi hz0 (by rw [hz1]; decide) (by rw [hz1]; decide) ?_
  rw [hz1]
  kernel_rfl
theorem build_ss (a b c d : ByteArray) (w : World) : (Instr.buildSlice 71 9 #[(0, .string e0), (1, .string e0), (2, .string e0), (3, .string a), (4, .string e0), (5, .string e0), (6, .string b), (7, .string c), (8, .string d)]).run Try.prog w = .ok (.slice (some ⟨w.heap.size, 0, none⟩) 9 9) (w.alloc (.cells #[.string e0, .string e0, .string e0, .string a, .string e0, .string e0, .string b, .string c, .string d] 9)) := by
  obtain ⟨i0, hi, hz0, hz1, hz2⟩ := info_parts info9p
  refine run_buildSlice (P := Try.prog) w 71 9 9 _ _ i0 _ Try.underlying71 hi hz0 (by rw [hz1]; decide) (by rw [hz1]; decide) ?_
  rw [hz1]
  kernel_rfl
theorem exec_ns (ev : Operand → Value) (op : Oper) (x0 x1 x2 x4 x5 : Operand) (ho : op.op = .buildSlice 70 9 #[(0, x0), (1, x1), (2, x2), (3, .const (.int .i64 0)), (4, x4), (5, x5), (6, .const (.int .i64 0)), (7, .const (.int .i64 0)), (8, .const (.int .i64 0))]) (o : El) (hc : ev (.const (.int .i64 0)) = .int .i64 0) (h0 : ev x0 = .int .i64 o.kind) (h1 : ev x1 = .int .i64 o.par) (h2 : ev x2 = .int .i64 o.ord) (h4 : ev x4 = .int .i64 o.frm) (h5 : ev x5 = .int .i64 o.to) (w : World) : (execOp ev op).run Try.prog w = .ok (.value (.slice (some ⟨w.heap.size, 0, none⟩) 9 9)) (w.alloc (.cells (nsV o).toArray 3)) := by
  unfold execOp
  simp only [ho, List.map_toArray, List.map_cons, List.map_nil, hc, h0, h1, h2, h4, h5, Sem.run_bind, Sem.run_pure, build_ns, Result.andThen_ok, nsV]
theorem exec_ss (ev : Operand → Value) (op : Oper) (x3 x6 x7 x8 : Operand) (ho : op.op = .buildSlice 71 9 #[(0, .const (.string e0)), (1, .const (.string e0)), (2, .const (.string e0)), (3, x3), (4, .const (.string e0)), (5, .const (.string e0)), (6, x6), (7, x7), (8, x8)]) (o : El) (hc : ev (.const (.string e0)) = .string e0) (h3 : ev x3 = .string o.name) (h6 : ev x6 = .string o.ev) (h7 : ev x7 = .string o.gd) (h8 : ev x8 = .string o.ac) (w : World) : (execOp ev op).run Try.prog w = .ok (.value (.slice (some ⟨w.heap.size, 0, none⟩) 9 9)) (w.alloc (.cells (ssV o).toArray 9)) := by
  unfold execOp
  simp only [ho, List.map_toArray, List.map_cons, List.map_nil, hc, h3, h6, h7, h8, Sem.run_bind, Sem.run_pure, build_ss, Result.andThen_ok, ssV]
theorem nsV_at (o : El) (k : Nat) (hk : k < 9) : (nsV o)[k]? = some (.int .i64 (getN o (k : Int))) := by
  rcases (by omega : k = 0 ∨ k = 1 ∨ k = 2 ∨ k = 3 ∨ k = 4 ∨ k = 5 ∨ k = 6 ∨ k = 7 ∨ k = 8) with rfl | rfl | rfl | rfl | rfl | rfl | rfl | rfl | rfl <;> rfl
theorem ssV_at (o : El) (k : Nat) (hk : k < 9) : (ssV o)[k]? = some (.string (getS o (k : Int))) := by
  rcases (by omega : k = 0 ∨ k = 1 ∨ k = 2 ∨ k = 3 ∨ k = 4 ∨ k = 5 ∨ k = 6 ∨ k = 7 ∨ k = 8) with rfl | rfl | rfl | rfl | rfl | rfl | rfl | rfl | rfl <;> rfl
theorem get_out {o : El} {f : Int} (h : f < 0 ∨ 8 < f) : getN o f = 0 ∧ getS o f = e0 := by
  unfold getN getS
  rw [if_neg (by omega), if_neg (by omega), if_neg (by omega), if_neg (by omega), if_neg (by omega), if_neg (by omega), if_neg (by omega), if_neg (by omega), if_neg (by omega)]
  exact ⟨rfl, rfl⟩
set_option maxHeartbeats 4000000 in
theorem value_any (w : World) (o : El) (f : Int) (hk : 0 ≤ o.kind ∧ o.kind ≤ 255) : Calls Try.prog 21 #[.agg o.vals.toArray, .int .i64 f] w (GetPost w o f) := by
  have hbx := box_alloc w 24 o.vals
  obtain ⟨X, hX⟩ : ∃ X, w.heap.size = X := ⟨_, rfl⟩
  obtain ⟨w1, hw1⟩ : ∃ w1, w.alloc (.cells o.vals.toArray 24) = w1 := ⟨_, rfl⟩
  rw [hw1] at hbx
  have hby := box_alloc w1 26 (vl 0 e0)
  obtain ⟨Y, hY⟩ : ∃ Y, w1.heap.size = Y := ⟨_, rfl⟩
  obtain ⟨w2, hw2⟩ : ∃ w2, w1.alloc (.cells (vl 0 e0).toArray 26) = w2 := ⟨_, rfl⟩
  rw [hw2] at hby
  have hbn := box_alloc w2 3 (nsV o)
  obtain ⟨A, hA⟩ : ∃ A, w2.heap.size = A := ⟨_, rfl⟩
  obtain ⟨w3, hw3⟩ : ∃ w3, w2.alloc (.cells (nsV o).toArray 3) = w3 := ⟨_, rfl⟩
  rw [hw3] at hbn
  have hbs := box_alloc w3 9 (ssV o)
  obtain ⟨B, hB⟩ : ∃ B, w3.heap.size = B := ⟨_, rfl⟩
  obtain ⟨w4, hw4⟩ : ∃ w4, w3.alloc (.cells (ssV o).toArray 9) = w4 := ⟨_, rfl⟩
  rw [hw4] at hbs
  have hx0 : ∀ ev op, op.op = .alloc 26 → (execOp ev op).run Try.prog w1 = .ok (.value (.pointer (some ⟨Y, 0, none⟩))) w2 := fun ev op ho => by rw [← hw2, ← hY]; exact exec_zero37 ev op ho _
  have hx1 : ∀ ev op x0 x1 x2 x4 x5, op.op = .buildSlice 70 9 #[(0, x0), (1, x1), (2, x2), (3, .const (.int .i64 0)), (4, x4), (5, x5), (6, .const (.int .i64 0)), (7, .const (.int .i64 0)), (8, .const (.int .i64 0))] → ev (.const (.int .i64 0)) = .int .i64 0 → ev x0 = .int .i64 o.kind → ev x1 = .int .i64 o.par → ev x2 = .int .i64 o.ord → ev x4 = .int .i64 o.frm → ev x5 = .int .i64 o.to → (execOp ev op).run Try.prog w2 = .ok (.value (.slice (some ⟨A, 0, none⟩) 9 9)) w3 := fun ev op x0 x1 x2 x4 x5 ho hc h0 h1 h2 h4 h5 => by rw [← hw3, ← hA]; exact exec_ns ev op x0 x1 x2 x4 x5 ho o hc h0 h1 h2 h4 h5 _
  have hx2 : ∀ ev op x3 x6 x7 x8, op.op = .buildSlice 71 9 #[(0, .const (.string e0)), (1, .const (.string e0)), (2, .const (.string e0)), (3, x3), (4, .const (.string e0)), (5, .const (.string e0)), (6, x6), (7, x7), (8, x8)] → ev (.const (.string e0)) = .string e0 → ev x3 = .string o.name → ev x6 = .string o.ev → ev x7 = .string o.gd → ev x8 = .string o.ac → (execOp ev op).run Try.prog w3 = .ok (.value (.slice (some ⟨B, 0, none⟩) 9 9)) w4 := fun ev op x3 x6 x7 x8 ho hc h3 h6 h7 h8 => by rw [← hw4, ← hB]; exact exec_ss ev op x3 x6 x7 x8 ho o hc h3 h6 h7 h8 _
  have hYX : Y = X + 1 := by rw [← hY, hbx.size, hX]
  have hAY : A = Y + 1 := by rw [← hA, hby.size, hY]
  have hBA : B = A + 1 := by rw [← hB, hbn.size, hA]
  have hy2 : w2.heap[Y]? = some (.cells (vl 0 e0).toArray 26 (0, 0)) := by rw [← hY]; exact hby.heap
  have t24 : Turn (fun _ => False) w2 w4 := hbn.turn.trans hbs.turn (fun _ _ => id)
  have hyh : w4.heap[Y]? = some (.cells (vl 0 e0).toArray 26 (0, 0)) := by rw [t24.block Y (by omega) id]; exact hy2
  have hr := rangeAt_turn hbx.range hby.turn id
  rw [hX] at hr
  have hcA : ∀ k, k < 9 → w4.cell? ⟨A, k, none⟩ = some (.int .i64 (getN o (k : Int))) := fun k hk => by
    refine (hbs.turn.cell (p := ⟨A, k, none⟩) (by show A < _; omega) id).trans ?_
    rw [← hA]; exact hbn.cell k _ (nsV_at o k hk)
  have hcB : ∀ k, k < 9 → w4.cell? ⟨B, k, none⟩ = some (.string (getS o (k : Int))) := fun k hk => by
    rw [← hB]; exact hbs.cell k _ (ssV_at o k hk)
  have HYH := Lib.hid hyh
  have HT := Lib.hid ((hbx.turn.trans hby.turn (fun _ _ => id)).trans t24 (fun _ _ => id))
  have HWS := Lib.hid (show w.heap.size < Y ∧ Y < A ∧ A < B by omega)
  have HX0 := Lib.hid hx0
  have HX1 := Lib.hid hx1
  have HX2 := Lib.hid hx2
  have HCA := Lib.hid hcA
  have HCB := Lib.hid hcB
  have c1 : w2.cell? ⟨X, 1, none⟩ = some (.int .u8 o.kind) := by have := hr 1 _ rfl; rwa [Nat.zero_add] at this
  have c2 : w2.cell? ⟨X, 2, none⟩ = some (.int .i64 o.par) := by have := hr 2 _ rfl; rwa [Nat.zero_add] at this
  have c3 : w2.cell? ⟨X, 3, none⟩ = some (.int .i64 o.ord) := by have := hr 3 _ rfl; rwa [Nat.zero_add] at this
  have c5 : w2.cell? ⟨X, 5, none⟩ = some (.int .i64 o.frm) := by have := hr 5 _ rfl; rwa [Nat.zero_add] at this
  have c6 : w2.cell? ⟨X, 6, none⟩ = some (.int .i64 o.to) := by have := hr 6 _ rfl; rwa [Nat.zero_add] at this
  have e4 : w3.cell? ⟨X, 4, none⟩ = some (.string o.name) := by have := rangeAt_turn hr hbn.turn id 4 _ rfl; rwa [Nat.zero_add] at this
  have e7 : w3.cell? ⟨X, 7, none⟩ = some (.string o.ev) := by have := rangeAt_turn hr hbn.turn id 7 _ rfl; rwa [Nat.zero_add] at this
  have e8 : w3.cell? ⟨X, 8, none⟩ = some (.string o.gd) := by have := rangeAt_turn hr hbn.turn id 8 _ rfl; rwa [Nat.zero_add] at this
  have e9 : w3.cell? ⟨X, 9, none⟩ = some (.string o.ac) := by have := rangeAt_turn hr hbn.turn id 9 _ rfl; rwa [Nat.zero_add] at this
  have hwk : IntKind.i64.wrap o.kind = o.kind := by rw [IntKind.wrap_i64]; omega
  clear hbx hby hbn hbs hx0 hx1 hx2 hyh hy2 hr hYX hAY hBA t24 hcA hcB hw2 hw3 hw4 hA hB hY
  by_cases h1 : f < 0
  · have HG := Lib.hid (get_out (o := o) (.inl h1))
    have d1 : decide (f < 0) = true := decide_eq_true h1
    go_enter Try.func21, Try.ntmps21
    go_wp2_with (with_reducible (show wpList _ _ _ (Oper.mk (some 4) (.alloc 26) _ _ _ _ :: _) _ _); refine still ?_)
    refine list_exec rfl _ _ (HX0.out _ _ rfl) ?_
    go_wp2_with (with_reducible (show wpList _ _ _ (Oper.mk (some 18) _ _ _ _ _ :: _) _ _); refine still ?_)
    refine list_exec rfl _ _ (HX1.out _ _ (.tmp 9) (.tmp 11) (.tmp 13) (.tmp 15) (.tmp 17) rfl rfl rfl rfl rfl rfl rfl) ?_
    go_wp2_with (with_reducible (show wpList _ _ _ (Oper.mk (some 27) _ _ _ _ _ :: _) _ _); refine still ?_)
    refine list_exec rfl _ _ (HX2.out _ _ (.tmp 20) (.tmp 22) (.tmp 24) (.tmp 26) rfl rfl rfl rfl rfl rfl) ?_
    clear c1 c2 c3 c5 c6 e4 e7 e8 e9
    go_wp2_with (with_reducible (show wpList _ _ _ (Oper.mk (some 34) _ _ _ _ _ :: _) _ _); refine still ?_)
    refine list_exec rfl _ _ (exec_vl0 _ _ rfl _) ?_
    go_wp2_with (with_reducible (show wpList _ _ _ (Oper.mk none (.store 26 (.tmp 4) (.tmp 34)) _ _ _ _ :: _) _ _); refine still ?_)
    refine list_put w4 Y 26 (vl 0 e0) (vl 0 e0) HYH.out rfl (vl_one _ _) vl_info rfl (.tmp 4) (.tmp 34) rfl rfl rfl (fun w5 h5 t5 => ?_)
    have H5 := Lib.hid h5
    have HT5 := Lib.hid (HT.out.trans t5 (fun q hq e => by have := HWS.out; omega))
    clear h5 t5
    go_wp2_with fail
    refine bodyPost_ret (run_cell Try.f21 4 26 (by kernel_rfl) Y _ w5 (range_of H5.out) Try.underlying26 rfl vl_info _ rfl) rfl ?_
    exact ⟨by rw [HG.out.1, HG.out.2], HT5.out⟩
  · have d1 : decide (f < 0) = false := decide_eq_false h1
    by_cases h2 : 8 < f
    · have HG := Lib.hid (get_out (o := o) (.inr h2))
      have d2 : decide (8 < f) = true := decide_eq_true h2
      go_enter Try.func21, Try.ntmps21
      go_wp2_with (with_reducible (show wpList _ _ _ (Oper.mk (some 4) (.alloc 26) _ _ _ _ :: _) _ _); refine still ?_)
      refine list_exec rfl _ _ (HX0.out _ _ rfl) ?_
      go_wp2_with (with_reducible (show wpList _ _ _ (Oper.mk (some 18) _ _ _ _ _ :: _) _ _); refine still ?_)
      refine list_exec rfl _ _ (HX1.out _ _ (.tmp 9) (.tmp 11) (.tmp 13) (.tmp 15) (.tmp 17) rfl rfl rfl rfl rfl rfl rfl) ?_
      go_wp2_with (with_reducible (show wpList _ _ _ (Oper.mk (some 27) _ _ _ _ _ :: _) _ _); refine still ?_)
      refine list_exec rfl _ _ (HX2.out _ _ (.tmp 20) (.tmp 22) (.tmp 24) (.tmp 26) rfl rfl rfl rfl rfl rfl) ?_
      clear c1 c2 c3 c5 c6 e4 e7 e8 e9
      go_wp2_with (with_reducible (show wpList _ _ _ (Oper.mk (some 34) _ _ _ _ _ :: _) _ _); refine still ?_)
      refine list_exec rfl _ _ (exec_vl0 _ _ rfl _) ?_
      go_wp2_with (with_reducible (show wpList _ _ _ (Oper.mk none (.store 26 (.tmp 4) (.tmp 34)) _ _ _ _ :: _) _ _); refine still ?_)
      refine list_put w4 Y 26 (vl 0 e0) (vl 0 e0) HYH.out rfl (vl_one _ _) vl_info rfl (.tmp 4) (.tmp 34) rfl rfl rfl (fun w5 h5 t5 => ?_)
      have H5 := Lib.hid h5
      have HT5 := Lib.hid (HT.out.trans t5 (fun q hq e => by have := HWS.out; omega))
      clear h5 t5
      go_wp2_with fail
      refine bodyPost_ret (run_cell Try.f21 4 26 (by kernel_rfl) Y _ w5 (range_of H5.out) Try.underlying26 rfl vl_info _ rfl) rfl ?_
      exact ⟨by rw [HG.out.1, HG.out.2], HT5.out⟩
    · have d2 : decide (8 < f) = false := decide_eq_false h2
      obtain ⟨k, rfl⟩ : ∃ k : Nat, f = (k : Int) := ⟨f.toNat, by omega⟩
      have hk9 : k < 9 := by omega
      have gk : (0 : Int) ≤ (k : Int) ∧ (k : Int) < 9 := by omega
      have ca := HCA.out k hk9
      have cb := HCB.out k hk9
      obtain ⟨N, hN⟩ : ∃ N, getN o (k : Int) = N := ⟨_, rfl⟩
      obtain ⟨S, hS⟩ : ∃ S, getS o (k : Int) = S := ⟨_, rfl⟩
      rw [hN] at ca
      rw [hS] at cb
      have HNN := Lib.hid hN
      have HSS := Lib.hid hS
      clear hN hS
      go_enter Try.func21, Try.ntmps21
      go_wp2_with (with_reducible (show wpList _ _ _ (Oper.mk (some 4) (.alloc 26) _ _ _ _ :: _) _ _); refine still ?_)
      refine list_exec rfl _ _ (HX0.out _ _ rfl) ?_
      go_wp2_with (with_reducible (show wpList _ _ _ (Oper.mk (some 18) _ _ _ _ _ :: _) _ _); refine still ?_)
      refine list_exec rfl _ _ (HX1.out _ _ (.tmp 9) (.tmp 11) (.tmp 13) (.tmp 15) (.tmp 17) rfl rfl rfl rfl rfl rfl rfl) ?_
      go_wp2_with (with_reducible (show wpList _ _ _ (Oper.mk (some 27) _ _ _ _ _ :: _) _ _); refine still ?_)
      refine list_exec rfl _ _ (HX2.out _ _ (.tmp 20) (.tmp 22) (.tmp 24) (.tmp 26) rfl rfl rfl rfl rfl rfl) ?_
      clear c1 c2 c3 c5 c6 e4 e7 e8 e9
      go_wp2_with fail
      refine wp_region_held_drew (S := fun wq => wq.cell? ⟨A, k, none⟩ = some (.int .i64 N) ∧ wq.cell? ⟨B, k, none⟩ = some (.string S)) (by kernel_rfl) ⟨ca, cb⟩ (fun hHeld => ?_)
      refine wpAnyH_take (i := 0) (v := .slice (some ⟨A, 0, none⟩) 9 9) rfl (by kernel_rfl) (by kernel_rfl) (by kernel_rfl) (fun _ _ _ h => h) (Or.inl ⟨by rfl, ?yq8⟩) (by assumption) ?rq8
      case yq8 => (intro wq hSw; (try simp only [List.getElem_toArray, List.getElem_cons_zero, List.getElem_cons_succ]); go_simp; (try with_reducible rfl); all_goals (try omega))
      case rq8 =>
      try simp only [Act.put, List.setIfInBounds_toArray, List.set_cons_zero, List.set_cons_succ, List.getElem_toArray, List.getElem_cons_zero, List.getElem_cons_succ]
      refine wpAnyH_take (i := 1) (v := .int .i64 (k : Int)) rfl (by kernel_rfl) (by kernel_rfl) (by kernel_rfl) (fun _ _ _ h => h) (Or.inl ⟨by rfl, ?yq9⟩) (by assumption) ?rq9
      case yq9 => (intro wq hSw; (try simp only [List.getElem_toArray, List.getElem_cons_zero, List.getElem_cons_succ]); go_simp; (try with_reducible rfl); all_goals (try omega))
      case rq9 =>
      try simp only [Act.put, List.setIfInBounds_toArray, List.set_cons_zero, List.set_cons_succ, List.getElem_toArray, List.getElem_cons_zero, List.getElem_cons_succ]
      refine wpAnyH_take (i := 2) (v := .pointer (some ⟨A, k, none⟩)) rfl (by kernel_rfl) (by kernel_rfl) (by kernel_rfl) (fun _ _ _ h => h) (Or.inl ⟨by rfl, ?yq10⟩) (by assumption) ?rq10
      case yq10 => (intro wq hSw; (try simp only [List.getElem_toArray, List.getElem_cons_zero, List.getElem_cons_succ]); go_simp; (try with_reducible rfl); all_goals (try omega))
      case rq10 =>
      try simp only [Act.put, List.setIfInBounds_toArray, List.set_cons_zero, List.set_cons_succ, List.getElem_toArray, List.getElem_cons_zero, List.getElem_cons_succ]
      refine wpAnyH_take (i := 3) (v := .int .i64 N) rfl (by kernel_rfl) (by kernel_rfl) (by kernel_rfl) (fun _ _ _ h => h) (Or.inl ⟨by rfl, ?yq11⟩) (by assumption) ?rq11
      case yq11 => (intro wq hSw; obtain ⟨k1, k2⟩ := hSw; (try simp only [List.getElem_toArray, List.getElem_cons_zero, List.getElem_cons_succ]); go_simp; (try with_reducible rfl); all_goals (try omega))
      case rq11 =>
      try simp only [Act.put, List.setIfInBounds_toArray, List.set_cons_zero, List.set_cons_succ, List.getElem_toArray, List.getElem_cons_zero, List.getElem_cons_succ]
      refine wpAnyH_take (i := 4) (v := .slice (some ⟨B, 0, none⟩) 9 9) rfl (by kernel_rfl) (by kernel_rfl) (by kernel_rfl) (fun _ _ _ h => h) (Or.inl ⟨by rfl, ?yq12⟩) (by assumption) ?rq12
      case yq12 => (intro wq hSw; (try simp only [List.getElem_toArray, List.getElem_cons_zero, List.getElem_cons_succ]); go_simp; (try with_reducible rfl); all_goals (try omega))
      case rq12 =>
      try simp only [Act.put, List.setIfInBounds_toArray, List.set_cons_zero, List.set_cons_succ, List.getElem_toArray, List.getElem_cons_zero, List.getElem_cons_succ]
      refine wpAnyH_take (i := 5) (v := .int .i64 (k : Int)) rfl (by kernel_rfl) (by kernel_rfl) (by kernel_rfl) (fun _ _ _ h => h) (Or.inl ⟨by rfl, ?yq13⟩) (by assumption) ?rq13
      case yq13 => (intro wq hSw; (try simp only [List.getElem_toArray, List.getElem_cons_zero, List.getElem_cons_succ]); go_simp; (try with_reducible rfl); all_goals (try omega))
      case rq13 =>
      try simp only [Act.put, List.setIfInBounds_toArray, List.set_cons_zero, List.set_cons_succ, List.getElem_toArray, List.getElem_cons_zero, List.getElem_cons_succ]
      refine wpAnyH_take (i := 6) (v := .pointer (some ⟨B, k, none⟩)) rfl (by kernel_rfl) (by kernel_rfl) (by kernel_rfl) (fun _ _ _ h => h) (Or.inl ⟨by rfl, ?yq14⟩) (by assumption) ?rq14
      case yq14 => (intro wq hSw; (try simp only [List.getElem_toArray, List.getElem_cons_zero, List.getElem_cons_succ]); go_simp; (try with_reducible rfl); all_goals (try omega))
      case rq14 =>
      try simp only [Act.put, List.setIfInBounds_toArray, List.set_cons_zero, List.set_cons_succ, List.getElem_toArray, List.getElem_cons_zero, List.getElem_cons_succ]
      refine wpAnyH_take (i := 7) (v := .string S) rfl (by kernel_rfl) (by kernel_rfl) (by kernel_rfl) (fun _ _ _ h => h) (Or.inl ⟨by rfl, ?yq15⟩) (by assumption) ?rq15
      case yq15 => (intro wq hSw; obtain ⟨k1, k2⟩ := hSw; (try simp only [List.getElem_toArray, List.getElem_cons_zero, List.getElem_cons_succ]); go_simp; (try with_reducible rfl); all_goals (try omega))
      case rq15 =>
      try simp only [Act.put, List.setIfInBounds_toArray, List.set_cons_zero, List.set_cons_succ, List.getElem_toArray, List.getElem_cons_zero, List.getElem_cons_succ]
      refine wpAnyH_take (i := 8) (v := .agg (vl N S).toArray) rfl (by kernel_rfl) (by kernel_rfl) (by kernel_rfl) (fun _ _ _ h => h) (Or.inl ⟨by rfl, ?yq16⟩) (by assumption) ?rq16
      case yq16 => (intro wq hSw; exact exec_vlB _ _ _ _ N S rfl rfl rfl _)
      case rq16 =>
      try simp only [Act.put, List.setIfInBounds_toArray, List.set_cons_zero, List.set_cons_succ, List.getElem_toArray, List.getElem_cons_zero, List.getElem_cons_succ]
      refine wpAnyH_ready (rs := [9]) (by kernel_rfl) (by simp) ?_
      refine AllReadyH.cons rfl (fun K hK => ?_) AllReadyH.nil
      rw [if_pos (by rfl)]
      refine wp_put_var w4.drew Y 26 (vl 0 e0) (vl N S) HYH.out rfl (vl_one _ _) vl_info (.tmp 4) (.tmp 43) rfl rfl rfl (fun w5 h5 t5 => ?_)
      have H5 := Lib.hid h5
      have T5 := Lib.hid t5
      clear h5 t5
      refine hK.out _ _ ⟨(T5.out.cell (p := ⟨A, k, none⟩) (World.block_lt_of_cell? w4 _ ca) (by show ¬ A = Y; have := HWS.out; omega)).trans ca, (T5.out.cell (p := ⟨B, k, none⟩) (World.block_lt_of_cell? w4 _ cb) (by show ¬ B = Y; have := HWS.out; omega)).trans cb⟩ (fun _ => ?_)
      clear hK K
      try simp only [Act.put, List.setIfInBounds_toArray, List.set_cons_zero, List.set_cons_succ, List.getElem_toArray, List.getElem_cons_zero, List.getElem_cons_succ]
      refine wpAnyH_done (by kernel_rfl) ?_ _
      clear hHeld
      have HT5 := Lib.hid ((HT.out.drew).trans T5.out (fun q hq e => by have := HWS.out; omega))
      clear ca cb
      go_wp2_with fail
      refine bodyPost_ret (run_cell Try.f21 4 26 (by kernel_rfl) Y _ w5 (range_of H5.out) Try.underlying26 rfl vl_info _ rfl) rfl ?_
      exact ⟨by rw [HNN.out, HSS.out], HT5.out⟩
end Go.Proofs.Ytbokdgcdkmnldaa
