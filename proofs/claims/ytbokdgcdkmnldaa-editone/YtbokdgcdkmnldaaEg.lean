/- Own contracts: edits: stands, stale, cut. No statement is proved here. -/
import Derived.Test.YtbokdgcdkmnldaaEf
import Derived.Test.YtbokdgcdkmnldaaCh
import Derived.Deep.RegionHeld3
namespace Go.Proofs.Ytbokdgcdkmnldaa
set_option maxRecDepth 100000
open Go.RowKit
set_option linter.unusedVariables false
set_option linter.unusedSimpArgs false

theorem stands_any (w : World) (v : Value) (l : List El) (nr : Int) (hv : RowV w v l) (hr : Rises l) (hb : l.length ≤ 1000) : Calls Try.prog 43 #[v, .int .i64 nr] w fun e w' => e = .returned (.bool (!lacksB l nr)) ∧ Turn (fun _ => False) w w' := by
  have HV := Lib.hid hv
  have HR := Lib.hid hr
  clear hv hr
  go_enter Try.func43, Try.ntmps43
  go_wp2_with fail
  refine (find2 w v l nr HV.out HR.out hb).mono ?_
  rintro r w1 ⟨o, b, rfl, hc, t1⟩
  have T1 := Lib.hid t1
  have HC := Lib.hid hc
  clear t1 hc
  obtain ⟨B, hB⟩ : ∃ Z, w1.heap.size = Z := ⟨_, rfl⟩
  obtain ⟨wz, hwz⟩ : ∃ wz, w1.alloc (.cells el0.vals.toArray 24) = wz := ⟨_, rfl⟩
  have hx0 : ∀ ev op, op.op = .alloc 24 → (execOp ev op).run Try.prog w1 = .ok (.value (.pointer (some ⟨B, 0, none⟩))) wz := fun ev op ho => by rw [← hwz, ← hB]; exact exec_zero24 ev op ho _
  have hb0 := box_alloc w1 24 el0.vals
  rw [hwz] at hb0
  have hh0 := hb0.heap
  rw [hB] at hh0
  have HXX0 := Lib.hid hx0
  have HB0 := Lib.hid hb0
  have HH0 := Lib.hid hh0
  have HE0 := Lib.hid hB
  clear hb0 hB hwz hx0 hh0
  go_wp2_with (with_reducible (show wpList _ _ _ (Oper.mk (some 5) (.alloc 24) _ _ _ _ :: _) _ _); refine still ?_)
  refine list_exec rfl _ _ (HXX0.out _ _ rfl) ?_
  go_wp2_with (with_reducible (show wpList _ _ _ (Oper.mk none (.store 24 (.tmp 5) (.tmp 11)) _ _ _ _ :: _) _ _); refine still ?_)
  refine list_put wz B 24 el0.vals o.vals HH0.out rfl o.vals_one el_info rfl (.tmp 5) (.tmp 11) rfl rfl rfl (fun w3 h3 t3 => ?_)
  have T3 := Lib.hid ((T1.out.trans HB0.out.turn (fun _ _ => id)).trans t3 (fun q hq e => by have := HE0.out; have := T1.out.size; omega))
  clear h3 t3
  have HL := Lib.hid (show lacksB l nr = (!decide (nr = 0) && !b) from by
    unfold lacksB hasB
    rcases HC.out with ⟨h1, h2⟩ | ⟨h1, h2, _⟩
    · rw [h1, h2]; simp
    · rw [h1, h2]; simp)
  by_cases h0 : nr = 0
  · have q0 : (nr == 0) = true := by simpa using h0
    have HZ := Lib.hid (show decide (nr = 0) = true from decide_eq_true h0)
    clear h0
    go_wp2_with fail
    go_ret
    exact ⟨by rw [HL.out, HZ.out]; rfl, T3.out⟩
  · have q0 : (nr == 0) = false := by simpa using h0
    have HZ := Lib.hid (show decide (nr = 0) = false from decide_eq_false h0)
    clear h0
    go_wp2_with fail
    go_ret
    exact ⟨by rw [HL.out, HZ.out]; cases b <;> rfl, T3.out⟩
def staleE (o : El) (x : Ed) : Bool := if x.op = 2 then !decide (o = x.e) else if x.op = 3 then !decide (getN o x.f = x.on ∧ getS o x.f = x.os) else false
set_option maxHeartbeats 4000000 in
theorem stale_any (o : El) (x : Ed) (hk : 0 ≤ o.kind ∧ o.kind ≤ 255) (w0 : World) : Calls Try.prog 25 #[.agg o.vals.toArray, .agg x.vals.toArray] w0 fun e w' => e = .returned (.bool (staleE o x)) ∧ Turn (fun _ => False) w0 w' := by
  have hby := box_alloc w0 24 o.vals
  obtain ⟨Y, hY⟩ : ∃ Y, w0.heap.size = Y := ⟨_, rfl⟩
  obtain ⟨w, hw⟩ : ∃ w, w0.alloc (.cells o.vals.toArray 24) = w := ⟨_, rfl⟩
  rw [hw] at hby
  have hyr := hby.range
  rw [hY] at hyr
  have hbx := box_alloc w 28 x.vals
  obtain ⟨X, hX⟩ : ∃ X, w.heap.size = X := ⟨_, rfl⟩
  obtain ⟨w1, hw1⟩ : ∃ w1, w.alloc (.cells x.vals.toArray 28) = w1 := ⟨_, rfl⟩
  rw [hw1] at hbx
  have hh := hbx.heap
  rw [hX] at hh
  have hr := hbx.range
  rw [hX] at hr
  obtain ⟨c0, c1, c3, c11, c12, c14⟩ := edC hr
  simp only [Nat.zero_add] at c0 c1 c3 c11 c12 c14
  have T1 := Lib.hid hbx.turn
  have HR := Lib.hid hr
  have HX := Lib.hid hh
  have HXS := Lib.hid hX
  have HSZ := Lib.hid hbx.size
  clear hbx hr hh
  clear HX HXS HSZ
  have HYR := Lib.hid (rangeAt_turn hyr T1.out id)
  have T0 := Lib.hid (hby.turn.trans T1.out (fun _ _ => id))
  clear hyr hby T1
  by_cases ho : x.op = 2
  · have HS := Lib.hid (show staleE o x = !decide (o = x.e) by unfold staleE; rw [if_pos ho])
    have q2 : (x.op == 2) = true := by rw [ho]; rfl
    clear ho
    go_enter Try.func25, Try.ntmps25
    go_wp2_with (with_reducible (show wpList _ _ _ (Oper.mk (some 9) (.load 24 (.tmp 2)) _ _ _ _ :: _) _ _); refine still ?_)
    refine wpList_load_mid rfl 24 (.tmp 2) rfl Y 0 rfl o.vals _ HYR.out Try.underlying24 rfl el_info ?_
    go_wp2_with (with_reducible (show wpList _ _ _ (Oper.mk (some 11) (.load 24 (.tmp 10)) _ _ _ _ :: _) _ _); refine still ?_)
    refine wpList_load_mid rfl 24 (.tmp 10) rfl X 1 rfl x.e.vals _ (by have := edE HR.out; rwa [Nat.zero_add] at this) Try.underlying24 rfl el_info ?_
    go_wp2_with (with_reducible (show wpList _ _ _ (Oper.mk (some 12) (_) _ _ _ _ :: _) _ _); refine still ?_)
    refine list_exec rfl _ _ (exec_neq_el _ _ rfl o x.e _ rfl rfl) ?_
    go_wp2_with fail
    go_ret
    exact ⟨by rw [HS.out]; rfl, T0.out⟩
  · by_cases h2 : x.op = 3
    · have ho := h2
      clear h2
      have HS := Lib.hid (show staleE o x = !decide (getN o x.f = x.on ∧ getS o x.f = x.os) by unfold staleE; rw [if_neg (by omega), if_pos ho])
      have q2 : (x.op == 2) = false := by rw [ho]; rfl
      have q3 : (x.op == 3) = true := by rw [ho]; rfl
      clear ho
      go_enter Try.func25, Try.ntmps25
      go_wp2_with fail
      refine wp_region_held_drew (S := fun wq => wq.rangeAt Y 0 o.vals ∧ wq.rangeAt X 0 x.vals) (by kernel_rfl) ⟨HYR.out, HR.out⟩ (fun hHeld => ?_)
      refine wpAnyH_take (i := 0) (v := .agg o.vals.toArray) rfl (by kernel_rfl) (by kernel_rfl) (by kernel_rfl) (fun _ _ _ h => h) (Or.inl ⟨by rfl, ?yq1⟩) (by assumption) ?rq1
      case yq1 => (intro wq hSw; exact exec_load_mid _ _ 24 (.tmp 2) rfl Y 0 rfl o.vals _ _ hSw.1 Try.underlying24 rfl el_info)
      case rq1 =>
      try simp only [Act.put, List.setIfInBounds_toArray, List.set_cons_zero, List.set_cons_succ, List.getElem_toArray, List.getElem_cons_zero, List.getElem_cons_succ]
      refine wpAnyH_take (i := 1) (v := .pointer (some ⟨X, 11, none⟩)) rfl (by kernel_rfl) (by kernel_rfl) (by kernel_rfl) (fun _ _ _ h => h) (Or.inl ⟨by rfl, ?yq2⟩) (by assumption) ?rq2
      case yq2 => (intro wq hSw; (try simp only [List.getElem_toArray, List.getElem_cons_zero, List.getElem_cons_succ]); go_simp; (try with_reducible rfl); all_goals (try omega))
      case rq2 =>
      try simp only [Act.put, List.setIfInBounds_toArray, List.set_cons_zero, List.set_cons_succ, List.getElem_toArray, List.getElem_cons_zero, List.getElem_cons_succ]
      refine wpAnyH_take (i := 2) (v := .int .i64 x.f) rfl (by kernel_rfl) (by kernel_rfl) (by kernel_rfl) (fun _ _ _ h => h) (Or.inl ⟨by rfl, ?yq3⟩) (by assumption) ?rq3
      case yq3 => (intro wq hSw; obtain ⟨_, _, _, z, _, _⟩ := edC hSw.2; simp only [Nat.zero_add] at z; (try simp only [List.getElem_toArray, List.getElem_cons_zero, List.getElem_cons_succ]); go_simp)
      case rq3 =>
      try simp only [Act.put, List.setIfInBounds_toArray, List.set_cons_zero, List.set_cons_succ, List.getElem_toArray, List.getElem_cons_zero, List.getElem_cons_succ]
      refine wpAnyH_take (i := 4) (v := .pointer (some ⟨X, 12, none⟩)) rfl (by kernel_rfl) (by kernel_rfl) (by kernel_rfl) (fun _ _ _ h => h) (Or.inl ⟨by rfl, ?yq4⟩) (by assumption) ?rq4
      case yq4 => (intro wq hSw; (try simp only [List.getElem_toArray, List.getElem_cons_zero, List.getElem_cons_succ]); go_simp; (try with_reducible rfl); all_goals (try omega))
      case rq4 =>
      try simp only [Act.put, List.setIfInBounds_toArray, List.set_cons_zero, List.set_cons_succ, List.getElem_toArray, List.getElem_cons_zero, List.getElem_cons_succ]
      refine wpAnyH_take (i := 5) (v := .agg (vl x.on x.os).toArray) rfl (by kernel_rfl) (by kernel_rfl) (by kernel_rfl) (fun _ _ _ h => h) (Or.inl ⟨by rfl, ?yq5⟩) (by assumption) ?rq5
      case yq5 => (intro wq hSw; exact exec_load_mid _ _ 26 (.tmp 19) rfl X 12 rfl (vl x.on x.os) _ _ (by have := edO hSw.2; rwa [Nat.zero_add] at this) Try.underlying26 rfl vl_info)
      case rq5 =>
      try simp only [Act.put, List.setIfInBounds_toArray, List.set_cons_zero, List.set_cons_succ, List.getElem_toArray, List.getElem_cons_zero, List.getElem_cons_succ]
      refine wpAnyH_ready (rs := [3]) (by kernel_rfl) (by simp) ?_
      refine AllReadyH.cons rfl (fun K hK => ?_) AllReadyH.nil
      go_simp
      refine (get_any w1.drew o x.f hk).mono ?_
      rintro r w2 ⟨rfl, t2⟩
      have T2 := Lib.hid (show Turn (fun _ => False) w1 w2 from (Turn.refl (fun _ => False) w1).drew.trans t2 (fun _ _ => id))
      clear t2
      refine hK.out _ _ ⟨rangeAt_turn HYR.out T2.out id, rangeAt_turn HR.out T2.out id⟩ (fun _ => ?_)
      clear hK K
      try simp only [Act.put, List.setIfInBounds_toArray, List.set_cons_zero, List.set_cons_succ, List.getElem_toArray, List.getElem_cons_zero, List.getElem_cons_succ]
      refine wpAnyH_take (i := 6) (v := .bool (!decide (getN o x.f = x.on ∧ getS o x.f = x.os))) rfl (by kernel_rfl) (by kernel_rfl) (by kernel_rfl) (fun _ _ _ h => h) (Or.inl ⟨by rfl, ?yq6⟩) (by assumption) ?rq6
      case yq6 => (intro wq hSw; exact exec_neq_vl _ _ rfl _ _ _ _ wq rfl rfl)
      case rq6 =>
      try simp only [Act.put, List.setIfInBounds_toArray, List.set_cons_zero, List.set_cons_succ, List.getElem_toArray, List.getElem_cons_zero, List.getElem_cons_succ]
      refine wpAnyH_take (i := 7) (v := .bool (!decide (getN o x.f = x.on ∧ getS o x.f = x.os))) rfl (by kernel_rfl) (by kernel_rfl) (by kernel_rfl) (fun _ _ _ h => h) (Or.inl ⟨by rfl, ?yq7⟩) (by assumption) ?rq7
      case yq7 => (intro wq hSw; (try simp only [List.getElem_toArray, List.getElem_cons_zero, List.getElem_cons_succ]); go_simp; (try with_reducible rfl); all_goals (try omega))
      case rq7 =>
      try simp only [Act.put, List.setIfInBounds_toArray, List.set_cons_zero, List.set_cons_succ, List.getElem_toArray, List.getElem_cons_zero, List.getElem_cons_succ]
      refine wpAnyH_done (by kernel_rfl) ?_ _
      clear hHeld
      rw [← HS.out]
      go_wp2_with fail
      go_ret
      exact ⟨rfl, T0.out.trans T2.out (fun _ _ => id)⟩
    · have HS := Lib.hid (show staleE o x = false by unfold staleE; rw [if_neg ho, if_neg h2])
      have q2 : (x.op == 2) = false := by simpa using ho
      have q3 : (x.op == 3) = false := by simpa using h2
      clear ho h2
      go_enter Try.func25, Try.ntmps25
      go_wp2_with fail
      go_ret
      exact ⟨by rw [HS.out]; rfl, T0.out⟩
theorem own_slice3 {w : World} {base : Nat} {v : Value} {n : Nat} {xs : List Value} (h : w.ownsRow base 3 1 v n xs) : ∃ a c, v = .slice a n c := by
  rcases h.2 with ⟨rfl, rfl⟩ | ⟨g, cap', _, rfl, _⟩
  · exact ⟨_, _, rfl⟩
  · exact ⟨_, _, rfl⟩
def cutC (l : List El) (x : Ed) : Bool := if x.op = 3 then decide (x.f = 1) && (lacksB l x.on || lacksB l x.nn) else lacksB l x.e.par || parB l x.e.id
theorem child_par (l : List El) (nr : Int) : decide (0 < (childE l nr).length) = parB l nr := by
  unfold childE parB
  rw [List.length_map]
  induction l with
  | nil => rfl
  | cons a l ih =>
    rw [List.filter_cons, List.any_cons]
    by_cases h : a.par = nr
    · simp [h]
    · simp only [h, decide_false, Bool.false_or, Bool.false_eq_true, if_false]
      simpa using ih
set_option maxHeartbeats 4000000 in
theorem cut_any (w : World) (v : Value) (l : List El) (x : Ed) (hv : RowV w v l) (hrs : Rises l) (hb : l.length ≤ 1000) : Calls Try.prog 26 #[v, .agg x.vals.toArray] w fun e w' => e = .returned (.bool (cutC l x)) ∧ Turn (fun _ => False) w w' := by
  have hbx := box_alloc w 28 x.vals
  obtain ⟨X, hX⟩ : ∃ X, w.heap.size = X := ⟨_, rfl⟩
  obtain ⟨w1, hw1⟩ : ∃ w1, w.alloc (.cells x.vals.toArray 28) = w1 := ⟨_, rfl⟩
  rw [hw1] at hbx
  have hh := hbx.heap
  rw [hX] at hh
  have hr := hbx.range
  rw [hX] at hr
  obtain ⟨c0, c1, c3, c11, c12, c14⟩ := edC hr
  simp only [Nat.zero_add] at c0 c1 c3 c11 c12 c14
  have T1 := Lib.hid hbx.turn
  have HR := Lib.hid hr
  have HX := Lib.hid hh
  have HXS := Lib.hid hX
  have HSZ := Lib.hid hbx.size
  clear hbx hr hh
  clear HX HXS HSZ
  have HV := Lib.hid (hv.turn T1.out (fun _ _ => id))
  have HRS := Lib.hid hrs
  clear hv hrs
  have HST := Lib.hid (fun (wa : World) (hva : RowV wa v l) (nr : Int) => stands_any wa v l nr hva HRS.out hb)
  by_cases ho : x.op = 3
  · have q3 : (x.op == 3) = true := by rw [ho]; rfl
    have HS := Lib.hid (show cutC l x = (decide (x.f = 1) && (lacksB l x.on || lacksB l x.nn)) by unfold cutC; rw [if_pos ho])
    clear ho
    by_cases h1 : x.f = 1
    · have q1 : (x.f == 1) = true := by rw [h1]; rfl
      have HF := Lib.hid (show decide (x.f = 1) = true from decide_eq_true h1)
      clear h1
      obtain ⟨L1, hL1⟩ : ∃ B, lacksB l x.on = B := ⟨_, rfl⟩
      obtain ⟨L2, hL2⟩ : ∃ B, lacksB l x.nn = B := ⟨_, rfl⟩
      have HL1 := Lib.hid hL1
      have HL2 := Lib.hid hL2
      clear hL1 hL2
      cases L1
      · go_enter Try.func26, Try.ntmps26
        go_wp2_with (go_at_call 43; refine (HST.out w1 HV.out x.on).mono ?_; rintro r w2 ⟨rfl, t2⟩; rw [HL1.out]; have T2 := Lib.hid (T1.out.trans t2 (fun _ _ => id)); have HV2 := Lib.hid (HV.out.turn t2 (fun _ _ => id)); have HR2 := Lib.hid (rangeAt_turn HR.out t2 id); clear t2 c0 c1 c3 c11 c12 c14; obtain ⟨c0, c1, c3, c11, c12, c14⟩ := edC HR2.out; simp only [Nat.zero_add] at c0 c1 c3 c11 c12 c14; refine still ?_)
        unfold Still
        go_wp2_with (go_at_call 43; refine (HST.out w2 HV2.out x.nn).mono ?_; rintro r w3 ⟨rfl, t3⟩; rw [HL2.out]; have T3 := Lib.hid (T2.out.trans t3 (fun _ _ => id)); clear t3)
        go_ret
        exact ⟨by rw [HS.out, HF.out, HL1.out, HL2.out]; cases L2 <;> rfl, T3.out⟩
      · go_enter Try.func26, Try.ntmps26
        go_wp2_with (go_at_call 43; refine (HST.out w1 HV.out x.on).mono ?_; rintro r w2 ⟨rfl, t2⟩; rw [HL1.out]; have T2 := Lib.hid (T1.out.trans t2 (fun _ _ => id)); have HV2 := Lib.hid (HV.out.turn t2 (fun _ _ => id)); have HR2 := Lib.hid (rangeAt_turn HR.out t2 id); clear t2 c0 c1 c3 c11 c12 c14; obtain ⟨c0, c1, c3, c11, c12, c14⟩ := edC HR2.out; simp only [Nat.zero_add] at c0 c1 c3 c11 c12 c14; refine still ?_)
        unfold Still
        go_wp2_with fail
        go_ret
        exact ⟨by rw [HS.out, HF.out, HL1.out]; rfl, T2.out⟩
    · have q1 : (x.f == 1) = false := by simpa using h1
      have HF := Lib.hid (show decide (x.f = 1) = false from decide_eq_false h1)
      clear h1
      go_enter Try.func26, Try.ntmps26
      go_wp2_with fail
      go_ret
      exact ⟨by rw [HS.out, HF.out]; rfl, T1.out⟩
  · have q3 : (x.op == 3) = false := by simpa using ho
    have HS := Lib.hid (show cutC l x = (lacksB l x.e.par || parB l x.e.id) by unfold cutC; rw [if_neg ho])
    clear ho
    obtain ⟨L1, hL1⟩ : ∃ B, lacksB l x.e.par = B := ⟨_, rfl⟩
    have HL1 := Lib.hid hL1
    clear hL1
    cases L1
    · go_enter Try.func26, Try.ntmps26
      go_wp2_with (go_at_call 43; refine (HST.out w1 HV.out x.e.par).mono ?_; rintro r w2 ⟨rfl, t2⟩; rw [HL1.out]; have T2 := Lib.hid (T1.out.trans t2 (fun _ _ => id)); have HV2 := Lib.hid (HV.out.turn t2 (fun _ _ => id)); have HR2 := Lib.hid (rangeAt_turn HR.out t2 id); clear t2 c0 c1 c3 c11 c12 c14; obtain ⟨c0, c1, c3, c11, c12, c14⟩ := edC HR2.out; simp only [Nat.zero_add] at c0 c1 c3 c11 c12 c14; refine still ?_)
      unfold Still
      go_wp2_with fail
      refine (children_any w2 v l x.e.id HV2.out hb).mono ?_
      rintro r w3 ⟨v3, rfl, o3, t3⟩
      have T3 := Lib.hid (T2.out.trans t3 (fun _ _ => id))
      obtain ⟨a3, k3, rfl⟩ := own_slice3 o3
      have HCP := Lib.hid (child_par l x.e.id)
      clear t3 o3
      obtain ⟨n3, hn3⟩ : ∃ n3, (childE l x.e.id).length = n3 := ⟨_, rfl⟩
      rw [hn3] at HCP ⊢
      clear hn3
      go_wp2_with fail
      go_ret
      exact ⟨by rw [HS.out, HL1.out, ← HCP.out]; rfl, T3.out⟩
    · go_enter Try.func26, Try.ntmps26
      go_wp2_with (go_at_call 43; refine (HST.out w1 HV.out x.e.par).mono ?_; rintro r w2 ⟨rfl, t2⟩; rw [HL1.out]; have T2 := Lib.hid (T1.out.trans t2 (fun _ _ => id)); have HV2 := Lib.hid (HV.out.turn t2 (fun _ _ => id)); have HR2 := Lib.hid (rangeAt_turn HR.out t2 id); clear t2 c0 c1 c3 c11 c12 c14; obtain ⟨c0, c1, c3, c11, c12, c14⟩ := edC HR2.out; simp only [Nat.zero_add] at c0 c1 c3 c11 c12 c14; refine still ?_)
      unfold Still
      go_wp2_with fail
      go_ret
      exact ⟨by rw [HS.out, HL1.out]; rfl, T2.out⟩

end Go.Proofs.Ytbokdgcdkmnldaa
