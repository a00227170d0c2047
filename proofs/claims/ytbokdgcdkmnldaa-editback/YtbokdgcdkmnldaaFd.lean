/- Own contracts: an element is found, and dropped. No statement is proved here. -/
import Derived.Test.YtbokdgcdkmnldaaPt
namespace Go.Proofs.Ytbokdgcdkmnldaa
set_option maxRecDepth 100000
open Go.RowKit
set_option linter.unusedVariables false
set_option linter.unusedSimpArgs false


section
variable {P : Program} {ops : Array Oper} {Q : Exit → Act → World → Prop} {a : Act} {o : Oper} {rest : List Oper}
/-- A whole variable is written. -/
theorem list_put (w : World) (B : Nat) (T : TypeId) (zs cs : List Value) (hh : w.heap[B]? = some (.cells zs.toArray T (0, 0))) (hl : zs.length = cs.length) (h1 : ∀ v ∈ cs, v.oneCell' = true) (hi : (P.info? T).map (·.size) = some cs.length)
    (hgd : o.guard = none) (x y : Operand) (ho : o.op = .store T x y) (hx : a.eval x = .pointer (some ⟨B, 0, none⟩)) (hy : a.eval y = .agg cs.toArray)
    (h : ∀ w', w'.heap[B]? = some (.cells cs.toArray T (0, 0)) → Turn (fun q => q = B) w w' → wpList P ops Q rest (a.put o.dst undef) w') : wpList P ops Q (o :: rest) a w := by
  refine wpList_store_mid hgd T x y ho B 0 cs.toArray hx hy (by have := there_row hh; rw [hl] at this; simpa using this) (by simpa using hi) (all_oneCell_toArray h1) (h _ ?_ (turn_setCells B cs 0 w))
  have := heap_setCells B T cs 0 w zs hh (by omega)
  rw [this]
  simp [hl]
end
theorem range_of {w : World} {B : Nat} {T : TypeId} {cs : List Value} (h : w.heap[B]? = some (.cells cs.toArray T (0, 0))) : w.rangeAt B 0 cs := fun j v hj => by rw [Nat.zero_add, cell_of_row w _ j _ T (0, 0) h]; simpa using hj
theorem exec_zero24 (ev : Operand → Value) (op : Oper) (ho : op.op = .alloc 24) (w : World) : (execOp ev op).run Try.prog w = .ok (.value (.pointer (some ⟨w.heap.size, 0, none⟩))) (w.alloc (.cells el0.vals.toArray 24)) := by
  unfold execOp
  simp only [ho, Sem.run_bind, el_zero, Result.andThen_ok]
  rfl
theorem exec_build24 (ev : Operand → Value) (op : Oper) (ho : op.op = .build 24 #[]) (w : World) : (execOp ev op).run Try.prog w = .ok (.value (.agg el0.vals.toArray)) w := by
  unfold execOp
  simp only [ho, List.map_toArray, List.map_nil, Sem.run_bind, Sem.run_pure, el_build0, Result.andThen_ok]
theorem find_results (w : World) (b : Nat) (x : El) (r : Bool) (h2 : w.rangeAt b 0 x.vals) (tmps : Array Value) (e4 : tmps.getD 4 undef = .pointer (some ⟨b, 0, none⟩)) (e5 : tmps.getD 5 undef = .bool r) :
    (results Try.f24 tmps).run Try.prog w = .ok (.tuple #[.agg x.vals.toArray, .bool r]) w := by
  have hl : (loadVar 24 ⟨b, 0, none⟩).run Try.prog w = .ok (.agg x.vals.toArray) w := run_loadVar_mid (P := Try.prog) w b 0 24 x.vals _ h2 Try.underlying24 rfl el_info
  have hr : Try.f24.results = #[.cell 4 24, .tmp 5] := by kernel_rfl
  have e4' : tmps[4]?.getD undef = .pointer (some ⟨b, 0, none⟩) := by simpa using e4
  have e5' : tmps[5]?.getD undef = .bool r := by simpa using e5
  simp [results, hr, e4', e5', asAddr, hl]
/-- What Find tells. -/
def findX (l : List El) (nr : Int) (p : Nat) : El := if thereB l nr p = true then l.getD p el0 else el0
def FindPost (w : World) (l : List El) (nr : Int) (e : Ending) (w' : World) : Prop := ∃ p : Nat, IsPlace l nr p ∧ e = .returned (.tuple #[.agg (findX l nr p).vals.toArray, .bool (thereB l nr p)]) ∧ Turn (fun _ => False) w w'
set_option maxHeartbeats 1600000 in
theorem find_any (w : World) (v : Value) (l : List El) (nr : Int) (hv : RowV w v l) (hr : Rises l) (hb : l.length ≤ 1000) : Calls Try.prog 24 #[v, .int .i64 nr] w (FindPost w l nr) := by
  obtain ⟨la, lc, rfl⟩ := hv.form
  obtain ⟨n, hn⟩ : ∃ n, l.length = n := ⟨_, rfl⟩
  rw [hn] at hv hb
  simp only [hn]
  have hbx := box_alloc w 24 el0.vals
  obtain ⟨w1, hw1⟩ : ∃ w1, w.alloc (.cells el0.vals.toArray 24) = w1 := ⟨_, rfl⟩
  have hx0 : ∀ ev op, op.op = .alloc 24 → (execOp ev op).run Try.prog w = .ok (.value (.pointer (some ⟨w.heap.size, 0, none⟩))) w1 := fun ev op ho => by rw [← hw1]; exact exec_zero24 ev op ho w
  rw [hw1] at hbx
  have HX0 := Lib.hid hx0
  have HB := Lib.hid hbx
  have HV := Lib.hid hv
  have HN := Lib.hid hn
  have HR := Lib.hid hr
  clear hbx hv hn hr hw1 hx0
  go_enter Try.func24, Try.ntmps24
  go_wp2_with (with_reducible (show wpList _ _ _ (Oper.mk (some 4) (.alloc 24) _ _ _ _ :: _) _ _); refine still ?_)
  refine list_exec rfl _ _ (HX0.out _ _ rfl) ?_
  go_wp2_with fail
  refine (place_any w1 _ l nr (HV.out.turn HB.out.turn (fun _ _ => id)) HR.out (by rw [HN.out]; omega)).mono ?_
  rintro r w2 ⟨p, hp, rfl, t2⟩
  have HPL := Lib.hid hp
  have HT2 := Lib.hid (HB.out.turn.trans t2 (fun _ _ => id))
  have HH := Lib.hid ((t2.block _ (by rw [HB.out.size]; exact Nat.lt_succ_self _) id).trans HB.out.heap)
  clear t2 hp
  cases hth : thereB l nr p
  · have hfx : findX l nr p = el0 := by unfold findX; rw [hth]; rfl
    have HTH := Lib.hid hth
    have HFX := Lib.hid hfx
    clear hth hfx
    go_wp2_with (with_reducible (show wpList _ _ _ (Oper.mk (some 16) (.build 24 #[]) _ _ _ _ :: _) _ _); refine still ?_)
    refine list_exec rfl _ _ (exec_build24 _ _ rfl _) ?_
    go_wp2_with (with_reducible (show wpList _ _ _ (Oper.mk none (.store 24 (.tmp 4) (.tmp 16)) _ _ _ _ :: _) _ _); refine still ?_)
    refine list_put w2 w.heap.size 24 el0.vals el0.vals HH.out rfl el0.vals_one el_info rfl (.tmp 4) (.tmp 16) rfl rfl rfl (fun w3 h3 t3 => ?_)
    have H3 := Lib.hid h3
    have HT3 := Lib.hid (HT2.out.trans t3 (fun q hq e => by omega))
    clear h3 t3
    go_wp2_with fail
    refine bodyPost_ret (find_results w3 w.heap.size el0 false (range_of H3.out) _ rfl rfl) rfl ?_
    exact ⟨p, HPL.out, by rw [HTH.out, HFX.out], HT3.out⟩
  · have hfx : findX l nr p = l.getD p el0 := by unfold findX; rw [hth]; rfl
    have hpn : p < n := by
      have := hth
      unfold thereB at this
      rw [HN.out] at this
      exact (of_decide_eq_true this).1
    have HTH := Lib.hid hth
    have HFX := Lib.hid hfx
    obtain ⟨b, o, rfl, hc, hs1⟩ := (HV.out.turn HT2.out (fun _ _ => id)).one HN.out p hpn
    have gi : (0 : Int) ≤ (p : Int) ∧ (p : Int) < (n : Int) := by omega
    clear hth hfx
    generalize hx : l.getD p el0 = x at *
    have HX := Lib.hid hx
    clear hx
    go_wp2_with (with_reducible (show wpList _ _ _ (Oper.mk (some 20) (.load 24 (.tmp 19)) _ _ _ _ :: _) _ _); refine still ?_)
    refine wpList_load_mid rfl 24 (.tmp 19) rfl b (o + p * 10) rfl x.vals _ hs1 Try.underlying24 rfl el_info ?_
    go_wp2_with (with_reducible (show wpList _ _ _ (Oper.mk none (.store 24 (.tmp 4) (.tmp 20)) _ _ _ _ :: _) _ _); refine still ?_)
    refine list_put w2 w.heap.size 24 el0.vals x.vals HH.out rfl x.vals_one el_info rfl (.tmp 4) (.tmp 20) rfl rfl rfl (fun w3 h3 t3 => ?_)
    have H3 := Lib.hid h3
    have HT3 := Lib.hid (HT2.out.trans t3 (fun q hq e => by omega))
    clear h3 t3 hs1
    go_wp2_with fail
    refine bodyPost_ret (find_results w3 w.heap.size x true (range_of H3.out) _ rfl rfl) rfl ?_
    exact ⟨p, HPL.out, by rw [HTH.out, HFX.out], HT3.out⟩
theorem clone_els (w : World) (v : Value) (l : List El) (hv : RowV w v l) (hb : l.length ≤ 1000) : Calls Try.prog 36 #[v] w (NewEls w l) := by
  rcases hv with ⟨rfl, rfl⟩ | hq
  · have hnil : ∀ w, (binOp .eql 30 (.slice none 0 0) (.slice none 0 0)).run Try.prog w = .ok (.bool true) w := fun w => Lib.run_eql_slice_nil (P := Try.prog) w 30 24 none 0 0 0 0 Try.underlying30
    go_enter Try.func36, Try.ntmps36
    go_wp2_with fail
    go_ret
    exact ⟨_, rfl, World.ownsRow_nil _ _ _ _, Turn.refl _ _⟩
  · have hv : RowV w v l := .inr hq
    obtain ⟨g, o, c, rfl, hc, _, h4⟩ := hq
    obtain ⟨n, hn⟩ : ∃ n, l.length = n := ⟨_, rfl⟩
    rw [hn] at hv hb ⊢
    have hnil : ∀ w, (binOp .eql 30 (.slice (some ⟨g, o, none⟩) n c) (.slice none 0 0)).run Try.prog w = .ok (.bool false) w := fun w => Lib.run_eql_slice_nil (P := Try.prog) w 30 24 _ _ _ 0 0 Try.underlying30
    have hown := World.ownsRow_lit (base := w.heap.size) (e := 24) (size := 10) w #[] 0 (Nat.le_refl _) (by unfold maxLen; omega) (by simp)
    have T0 := (Turn.refl (fun _ => False) w).alloc (.cells #[] 24)
    obtain ⟨v', w', hr, ho, t⟩ := app_els (w.alloc (.cells #[] 24)) w.heap.size 30 30 Try.underlying30 _ _ [] l hown (hv.turn T0 (fun _ _ => id)) (by simp) (by simp; omega)
    have t2 := turn_on hown (Nat.le_refl _) T0 t
    obtain ⟨a5, c5, hv5⟩ := own_slice24 ho
    subst hv5
    have HN := Lib.hid hn
    have HR := Lib.hid hr
    have HO := Lib.hid ho
    have HT := Lib.hid t2
    clear hr ho t2 t hown hv h4 hn hc T0
    go_enter Try.func36, Try.ntmps36
    go_wp2_with (with_reducible (show wpList _ _ _ (Oper.mk (some 7) _ _ _ _ _ :: _) _ _); refine still ?_)
    refine list_exec rfl _ _ (exec_append _ _ (.tmp 5) (.tmp 6) 30 rfl _ _ _ _ _ rfl rfl HR.out) ?_
    go_wp2_with fail
    go_ret
    exact ⟨_, rfl, by simpa using HO.out, HT.out⟩

set_option maxHeartbeats 1600000 in
theorem drop_any (w : World) (v : Value) (l : List El) (nr : Int) (hv : RowV w v l) (hr : Rises l) (hb : l.length ≤ 1000) : Calls Try.prog 28 #[v, .int .i64 nr] w (NewEls w (dropE l nr)) := by
  obtain ⟨la, lc, rfl⟩ := hv.form
  obtain ⟨n, hn⟩ : ∃ n, l.length = n := ⟨_, rfl⟩
  rw [hn] at hv hb
  simp only [hn]
  have hcap := hv.cap hn
  have HV := Lib.hid hv
  have HN := Lib.hid hn
  have HR := Lib.hid hr
  clear hv hn hr
  go_enter Try.func28, Try.ntmps28
  go_wp2_with fail
  refine (place_any w _ l nr HV.out HR.out (by rw [HN.out]; omega)).mono ?_
  rintro r w2 ⟨p, hp, rfl, t2⟩
  have HDE := Lib.hid (dropE_split l nr HR.out hp)
  have HPL := Lib.hid hp
  have HT2 := Lib.hid t2
  have HV2 := Lib.hid (HV.out.turn HT2.out (fun _ _ => id))
  clear t2 hp
  cases hth : thereB l nr p
  · have HTH := Lib.hid hth
    clear hth
    go_wp2_with fail
    refine (clone_els w2 _ l HV2.out (by rw [HN.out]; exact hb)).mono ?_
    rintro r w3 ⟨v3, rfl, ho3, t3⟩
    have HO3 := Lib.hid ho3
    have HT3 := Lib.hid (HT2.out.trans t3 (fun _ _ => id))
    clear ho3 t3
    go_wp2_with fail
    go_ret
    refine ⟨_, rfl, ?_, HT3.out⟩
    rw [HDE.out, HTH.out]
    rw [if_neg (by simp), List.take_append_drop]
    exact own_base HO3.out HT2.out.size
  · have hpn : p < n := by
      have := hth
      unfold thereB at this
      rw [HN.out] at this
      exact (of_decide_eq_true this).1
    have hwp : IntKind.i64.wrap ((p : Int) + 1) = ((p + 1 : Nat) : Int) := by rw [IntKind.wrap_i64]; omega
    have HTH := Lib.hid hth
    clear hth
    obtain ⟨la1, lc1, hlo1⟩ := lo_any la n lc (p + 1) (by omega)
    have HD := Lib.hid (hlo1.row w2 l HV2.out HN.out)
    go_wp2_with fail
    refine wp_region_held_drew (S := fun wq => True) (by kernel_rfl) trivial (fun hHeld => ?_)
    refine wpAnyH_take (i := 0) (v := .slice la n lc) rfl (by kernel_rfl) (by kernel_rfl) (by kernel_rfl) (fun _ _ _ h => h) (Or.inl ⟨by rfl, ?yq1⟩) (by assumption) ?rq1
    case yq1 => (intro wq hSw; (try simp only [List.getElem_toArray, List.getElem_cons_zero, List.getElem_cons_succ]); go_simp; (try with_reducible rfl); all_goals (try omega))
    case rq1 =>
    try simp only [Act.put, List.setIfInBounds_toArray, List.set_cons_zero, List.set_cons_succ, List.getElem_toArray, List.getElem_cons_zero, List.getElem_cons_succ]
    refine wpAnyH_take (i := 1) (v := .int .i64 (p : Int)) rfl (by kernel_rfl) (by kernel_rfl) (by kernel_rfl) (fun _ _ _ h => h) (Or.inl ⟨by rfl, ?yq2⟩) (by assumption) ?rq2
    case yq2 => (intro wq hSw; (try simp only [List.getElem_toArray, List.getElem_cons_zero, List.getElem_cons_succ]); go_simp; (try with_reducible rfl); all_goals (try omega))
    case rq2 =>
    try simp only [Act.put, List.setIfInBounds_toArray, List.set_cons_zero, List.set_cons_succ, List.getElem_toArray, List.getElem_cons_zero, List.getElem_cons_succ]
    refine wpAnyH_take (i := 2) (v := .slice la p lc) rfl (by kernel_rfl) (by kernel_rfl) (by kernel_rfl) (fun _ _ _ h => h) (Or.inl ⟨by rfl, ?yq3⟩) (by assumption) ?rq3
    case yq3 => (intro wq hSw; exact exec_slice_hi _ _ rfl la n lc p rfl rfl (by omega) wq)
    case rq3 =>
    try simp only [Act.put, List.setIfInBounds_toArray, List.set_cons_zero, List.set_cons_succ, List.getElem_toArray, List.getElem_cons_zero, List.getElem_cons_succ]
    refine wpAnyH_take (i := 3) (v := .slice la n lc) rfl (by kernel_rfl) (by kernel_rfl) (by kernel_rfl) (fun _ _ _ h => h) (Or.inl ⟨by rfl, ?yq4⟩) (by assumption) ?rq4
    case yq4 => (intro wq hSw; (try simp only [List.getElem_toArray, List.getElem_cons_zero, List.getElem_cons_succ]); go_simp; (try with_reducible rfl); all_goals (try omega))
    case rq4 =>
    try simp only [Act.put, List.setIfInBounds_toArray, List.set_cons_zero, List.set_cons_succ, List.getElem_toArray, List.getElem_cons_zero, List.getElem_cons_succ]
    refine wpAnyH_take (i := 4) (v := .int .i64 (p : Int)) rfl (by kernel_rfl) (by kernel_rfl) (by kernel_rfl) (fun _ _ _ h => h) (Or.inl ⟨by rfl, ?yq5⟩) (by assumption) ?rq5
    case yq5 => (intro wq hSw; (try simp only [List.getElem_toArray, List.getElem_cons_zero, List.getElem_cons_succ]); go_simp; (try with_reducible rfl); all_goals (try omega))
    case rq5 =>
    try simp only [Act.put, List.setIfInBounds_toArray, List.set_cons_zero, List.set_cons_succ, List.getElem_toArray, List.getElem_cons_zero, List.getElem_cons_succ]
    refine wpAnyH_take (i := 5) (v := .int .i64 ((p + 1 : Nat) : Int)) rfl (by kernel_rfl) (by kernel_rfl) (by kernel_rfl) (fun _ _ _ h => h) (Or.inl ⟨by rfl, ?yq6⟩) (by assumption) ?rq6
    case yq6 => (intro wq hSw; (try simp only [List.getElem_toArray, List.getElem_cons_zero, List.getElem_cons_succ]); go_simp; (try with_reducible rfl); all_goals (try omega))
    case rq6 =>
    try simp only [Act.put, List.setIfInBounds_toArray, List.set_cons_zero, List.set_cons_succ, List.getElem_toArray, List.getElem_cons_zero, List.getElem_cons_succ]
    refine wpAnyH_take (i := 6) (v := .slice la1 (n - (p + 1)) lc1) rfl (by kernel_rfl) (by kernel_rfl) (by kernel_rfl) (fun _ _ _ h => h) (Or.inl ⟨by rfl, ?yq7⟩) (by assumption) ?rq7
    case yq7 => (intro wq hSw; exact hlo1.run _ _ _ _ rfl rfl rfl wq)
    case rq7 =>
    try simp only [Act.put, List.setIfInBounds_toArray, List.set_cons_zero, List.set_cons_succ, List.getElem_toArray, List.getElem_cons_zero, List.getElem_cons_succ]
    have hb3 := box_alloc w2.drew 30 [.slice la p lc, .slice la1 (n - (p + 1)) lc1]
    obtain ⟨w4, hw4⟩ : ∃ w4, w2.drew.alloc (.cells #[.slice la p lc, .slice la1 (n - (p + 1)) lc1] 30) = w4 := ⟨_, rfl⟩
    have hx3 : ∀ ev op x y, op.op = .buildSlice 79 2 #[(0, x), (1, y)] → ev x = .slice la p lc → ev y = .slice la1 (n - (p + 1)) lc1 → (execOp ev op).run Try.prog w2.drew = .ok (.value (.slice (some ⟨w2.drew.heap.size, 0, none⟩) 2 2)) w4 := fun ev op x y ho h1 h2 => by rw [← hw4]; exact exec_build2 ev op x y ho _ _ _ _ _ _ h1 h2 _
    rw [hw4] at hb3
    have td : Turn (fun _ => False) w2 w2.drew := (Turn.refl _ w2).drew
    have t24 : Turn (fun _ => False) w2 w4 := td.trans hb3.turn (fun _ _ => id)
    have hmany := many2 hb3 ((HV2.out.turn td (fun _ _ => id)).take p (by rw [HN.out]; omega)) (HD.out.turn td (fun _ _ => id))
    have HMANY := Lib.hid hmany
    have HT24 := Lib.hid t24
    have HX3 := Lib.hid hx3
    clear hb3 hw4 hx3 hmany t24 td
    refine wpAnyH_ready (rs := [7]) (by kernel_rfl) (by simp) ?_
    refine AllReadyH.cons rfl (fun K hK => ?_) AllReadyH.nil
    rw [if_pos (by rfl)]
    refine wp_exec (HX3.out _ _ (.tmp 19) (.tmp 23) rfl rfl rfl) ?_
    refine hK.out _ _ trivial (fun _ => ?_)
    clear hK K
    try simp only [Act.put, List.setIfInBounds_toArray, List.set_cons_zero, List.set_cons_succ, List.getElem_toArray, List.getElem_cons_zero, List.getElem_cons_succ]
    refine wpAnyH_ready (rs := [8]) (by kernel_rfl) (by simp) ?_
    refine AllReadyH.cons rfl (fun K hK => ?_) AllReadyH.nil
    go_simp
    refine (concat_els w4 w2.drew.heap.size 2 _ [l.take p, l.drop (p + 1)] 2 rfl (Nat.le_refl _) HMANY.out (by omega) (by have := HN.out; simp [sumL]; omega)).mono ?_
    rintro r w5 ⟨v5, rfl, ho5, t5⟩
    have HO5 := Lib.hid ho5
    have HT5 := Lib.hid (HT24.out.trans t5 (fun _ _ => id))
    clear ho5 t5
    refine hK.out _ _ trivial (fun _ => ?_)
    clear hK K
    try simp only [Act.put, List.setIfInBounds_toArray, List.set_cons_zero, List.set_cons_succ, List.getElem_toArray, List.getElem_cons_zero, List.getElem_cons_succ]
    refine wpAnyH_take (i := 9) (v := v5) rfl (by kernel_rfl) (by kernel_rfl) (by kernel_rfl) (fun _ _ _ h => h) (Or.inl ⟨by rfl, ?yq8⟩) (by assumption) ?rq8
    case yq8 => (intro wq hSw; (try simp only [List.getElem_toArray, List.getElem_cons_zero, List.getElem_cons_succ]); go_simp; (try with_reducible rfl); all_goals (try omega))
    case rq8 =>
    try simp only [Act.put, List.setIfInBounds_toArray, List.set_cons_zero, List.set_cons_succ, List.getElem_toArray, List.getElem_cons_zero, List.getElem_cons_succ]
    refine wpAnyH_done (by kernel_rfl) ?_ _
    clear hHeld
    obtain ⟨a5, c5, hv5⟩ := own_slice24 HO5.out
    subst hv5
    go_wp2_with fail
    go_ret
    refine ⟨_, rfl, ?_, HT2.out.trans HT5.out (fun _ _ => id)⟩
    rw [HDE.out, HTH.out, if_pos rfl, show l.take p ++ l.drop (p + 1) = [l.take p, l.drop (p + 1)].flatten by simp]
    exact own_base HO5.out (Nat.le_trans HT2.out.size HT24.out.size)
end Go.Proofs.Ytbokdgcdkmnldaa
