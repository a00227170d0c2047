/- Own contracts: EditClasses. No statement is proved here. -/
import Derived.Test.YtbokdgcdkmnldaaLa
namespace Go.Proofs.Ytbokdgcdkmnldaa
set_option maxRecDepth 100000
open Go.RowKit
set_option linter.unusedVariables false
set_option linter.unusedSimpArgs false

set_option maxHeartbeats 8000000 in
theorem ecls_law (w : World) (x : Ed) (f : Int) : Calls Try.prog 5 #[.agg x.vals.toArray, .int .i64 f] w fun e w' => e = .returned (.bool true) ∧ Turn (fun _ => False) w w' := by
  obtain ⟨y, hy⟩ : ∃ y : Ed, { x with f := f } = y := ⟨_, rfl⟩
  have HY := Lib.hid hy
  have HYV := Lib.hid (show x.vals.set 11 (.int .i64 f) = y.vals by rw [← hy]; rfl)
  have HYO := Lib.hid (show y.op = x.op by rw [← hy])
  clear hy
  have hbx := box_alloc w 28 x.vals
  obtain ⟨X, hX⟩ : ∃ X, w.heap.size = X := ⟨_, rfl⟩
  obtain ⟨w1, hw1⟩ : ∃ w1, w.alloc (.cells x.vals.toArray 28) = w1 := ⟨_, rfl⟩
  rw [hw1] at hbx
  have hh := hbx.heap
  rw [hX] at hh
  have hr := hbx.range
  rw [hX] at hr
  obtain ⟨c0, c1, c3, c11, c12, c14⟩ := edC hr
  simp only [Nat.zero_add] at c0 c1 c3 c11 c12 c14
  have T1 := Lib.hid hbx.turn
  have HR := Lib.hid hr
  have HX := Lib.hid hh
  have HXS := Lib.hid hX
  have HSZ := Lib.hid hbx.size
  clear hbx hr hh
  have HCE := Lib.hid (show classE y = if x.op = 1 then 6 else if x.op = 2 then 2 else ofE f by rw [← HY.out]; rfl)
  by_cases f1 : f = 1
  · have HOF := Lib.hid (show ofE 1 = 3 from rfl)
    rw [f1] at HCE HYV ⊢
    clear f1
    by_cases h1 : x.op = 1
    · have ho := h1
      have HC2 := Lib.hid (show classE y = 6 by rw [HCE.out, ho]; rfl)
      rw [ho] at c0
      clear h1
      go_enter Try.func5, Try.ntmps5
      go_wp2_with (with_reducible (show wpList _ _ _ (Oper.mk none (.store 3 (.tmp 16) (.tmp 15)) _ _ _ _ :: _) _ _); refine still ?_)
      refine list_set1 w1 X 28 3 x.vals 11 _ HX.out (by show 11 < 16; decide) (by rfl) (by rfl) (by kernel_rfl) rfl (.tmp 16) (.tmp 15) rfl rfl rfl (fun w2 h2' t2 => ?_)
      have HX2 := Lib.hid (show w2.heap[X]? = some (.cells y.vals.toArray 28 (0, 0)) by rw [← HYV.out]; exact h2')
      have T2 := Lib.hid (T1.out.trans t2 (fun q hq e => by have := HXS.out; omega))
      clear h2' t2 c0 c1 c3 c11 c12 c14
      obtain ⟨c0, c1, c3, c11, c12, c14⟩ := edC (range_of HX2.out)
      simp only [Nat.zero_add] at c0 c1 c3 c11 c12 c14
      rw [HYO.out, ho] at c0
      clear ho
      go_wp2_with fail
      refine (awake_any w2).mono ?_
      rintro r w3 ⟨rfl, t3⟩
      have T3 := Lib.hid (T2.out.trans t3 (fun _ _ => id))
      have HR3 := Lib.hid (rangeAt_turn (range_of HX2.out) t3 id)
      clear t3
      go_wp2_with (go_at_call 17; refine (of_any _ w3).mono ?_; rintro r w4 ⟨rfl, rfl⟩; rw [HOF.out]; refine still ?_)
      unfold Still
      go_wp2_with (with_reducible (show wpList _ _ _ (Oper.mk (some 32) (.load 28 (.tmp 2)) _ _ _ _ :: _) _ _); refine still ?_)
      refine wpList_exec_want (by rfl) _ _ (exec_load_mid _ _ 28 (.tmp 2) rfl X 0 rfl y.vals _ _ HR3.out Try.underlying28 rfl ed_info) ?_
      go_wp2_with (go_at_call 18; refine (class_any y _).mono ?_; rintro r w5 ⟨rfl, t5⟩; rw [HC2.out]; have T5 := Lib.hid t5; clear t5)
      go_ret
      exact ⟨rfl, T3.out.trans T5.out (fun _ _ => id)⟩
    · by_cases h2 : x.op = 2
      · have ho := h2
        have HC2 := Lib.hid (show classE y = 2 by rw [HCE.out, ho]; rfl)
        rw [ho] at c0
        clear h2
        go_enter Try.func5, Try.ntmps5
        go_wp2_with (with_reducible (show wpList _ _ _ (Oper.mk none (.store 3 (.tmp 16) (.tmp 15)) _ _ _ _ :: _) _ _); refine still ?_)
        refine list_set1 w1 X 28 3 x.vals 11 _ HX.out (by show 11 < 16; decide) (by rfl) (by rfl) (by kernel_rfl) rfl (.tmp 16) (.tmp 15) rfl rfl rfl (fun w2 h2' t2 => ?_)
        have HX2 := Lib.hid (show w2.heap[X]? = some (.cells y.vals.toArray 28 (0, 0)) by rw [← HYV.out]; exact h2')
        have T2 := Lib.hid (T1.out.trans t2 (fun q hq e => by have := HXS.out; omega))
        clear h2' t2 c0 c1 c3 c11 c12 c14
        obtain ⟨c0, c1, c3, c11, c12, c14⟩ := edC (range_of HX2.out)
        simp only [Nat.zero_add] at c0 c1 c3 c11 c12 c14
        rw [HYO.out, ho] at c0
        clear ho
        go_wp2_with fail
        refine (awake_any w2).mono ?_
        rintro r w3 ⟨rfl, t3⟩
        have T3 := Lib.hid (T2.out.trans t3 (fun _ _ => id))
        have HR3 := Lib.hid (rangeAt_turn (range_of HX2.out) t3 id)
        clear t3
        go_wp2_with (go_at_call 17; refine (of_any _ w3).mono ?_; rintro r w4 ⟨rfl, rfl⟩; rw [HOF.out]; refine still ?_)
        unfold Still
        go_wp2_with (with_reducible (show wpList _ _ _ (Oper.mk (some 32) (.load 28 (.tmp 2)) _ _ _ _ :: _) _ _); refine still ?_)
        refine wpList_exec_want (by rfl) _ _ (exec_load_mid _ _ 28 (.tmp 2) rfl X 0 rfl y.vals _ _ HR3.out Try.underlying28 rfl ed_info) ?_
        go_wp2_with (go_at_call 18; refine (class_any y _).mono ?_; rintro r w5 ⟨rfl, t5⟩; rw [HC2.out]; have T5 := Lib.hid t5; clear t5)
        go_ret
        exact ⟨rfl, T3.out.trans T5.out (fun _ _ => id)⟩
      · have p1 : (x.op == 1) = false := by simpa using h1
        have p2 : (x.op == 2) = false := by simpa using h2
        have HC2 := Lib.hid (show classE y = 3 by rw [HCE.out, if_neg h1, if_neg h2, HOF.out])
        clear h1 h2
        go_enter Try.func5, Try.ntmps5
        go_wp2_with (with_reducible (show wpList _ _ _ (Oper.mk none (.store 3 (.tmp 16) (.tmp 15)) _ _ _ _ :: _) _ _); refine still ?_)
        refine list_set1 w1 X 28 3 x.vals 11 _ HX.out (by show 11 < 16; decide) (by rfl) (by rfl) (by kernel_rfl) rfl (.tmp 16) (.tmp 15) rfl rfl rfl (fun w2 h2' t2 => ?_)
        have HX2 := Lib.hid (show w2.heap[X]? = some (.cells y.vals.toArray 28 (0, 0)) by rw [← HYV.out]; exact h2')
        have T2 := Lib.hid (T1.out.trans t2 (fun q hq e => by have := HXS.out; omega))
        clear h2' t2 c0 c1 c3 c11 c12 c14
        obtain ⟨c0, c1, c3, c11, c12, c14⟩ := edC (range_of HX2.out)
        simp only [Nat.zero_add] at c0 c1 c3 c11 c12 c14
        rw [HYO.out] at c0
        go_wp2_with fail
        refine (awake_any w2).mono ?_
        rintro r w3 ⟨rfl, t3⟩
        have T3 := Lib.hid (T2.out.trans t3 (fun _ _ => id))
        have HR3 := Lib.hid (rangeAt_turn (range_of HX2.out) t3 id)
        clear t3
        go_wp2_with (go_at_call 17; refine (of_any _ w3).mono ?_; rintro r w4 ⟨rfl, rfl⟩; rw [HOF.out]; refine still ?_)
        unfold Still
        go_wp2_with (with_reducible (show wpList _ _ _ (Oper.mk (some 32) (.load 28 (.tmp 2)) _ _ _ _ :: _) _ _); refine still ?_)
        refine wpList_exec_want (by rfl) _ _ (exec_load_mid _ _ 28 (.tmp 2) rfl X 0 rfl y.vals _ _ HR3.out Try.underlying28 rfl ed_info) ?_
        go_wp2_with (go_at_call 18; refine (class_any y _).mono ?_; rintro r w5 ⟨rfl, t5⟩; rw [HC2.out]; have T5 := Lib.hid t5; clear t5)
        go_ret
        exact ⟨rfl, T3.out.trans T5.out (fun _ _ => id)⟩
  · have n1 : (f == 1) = false := by simpa using f1
    by_cases f2 : f = 2
    · have HOF := Lib.hid (show ofE 2 = 4 from rfl)
      rw [f2] at HCE HYV ⊢
      clear f2
      by_cases h1 : x.op = 1
      · have ho := h1
        have HC2 := Lib.hid (show classE y = 6 by rw [HCE.out, ho]; rfl)
        rw [ho] at c0
        clear h1
        go_enter Try.func5, Try.ntmps5
        go_wp2_with (with_reducible (show wpList _ _ _ (Oper.mk none (.store 3 (.tmp 16) (.tmp 15)) _ _ _ _ :: _) _ _); refine still ?_)
        refine list_set1 w1 X 28 3 x.vals 11 _ HX.out (by show 11 < 16; decide) (by rfl) (by rfl) (by kernel_rfl) rfl (.tmp 16) (.tmp 15) rfl rfl rfl (fun w2 h2' t2 => ?_)
        have HX2 := Lib.hid (show w2.heap[X]? = some (.cells y.vals.toArray 28 (0, 0)) by rw [← HYV.out]; exact h2')
        have T2 := Lib.hid (T1.out.trans t2 (fun q hq e => by have := HXS.out; omega))
        clear h2' t2 c0 c1 c3 c11 c12 c14
        obtain ⟨c0, c1, c3, c11, c12, c14⟩ := edC (range_of HX2.out)
        simp only [Nat.zero_add] at c0 c1 c3 c11 c12 c14
        rw [HYO.out, ho] at c0
        clear ho
        go_wp2_with fail
        refine (awake_any w2).mono ?_
        rintro r w3 ⟨rfl, t3⟩
        have T3 := Lib.hid (T2.out.trans t3 (fun _ _ => id))
        have HR3 := Lib.hid (rangeAt_turn (range_of HX2.out) t3 id)
        clear t3
        go_wp2_with (go_at_call 17; refine (of_any _ w3).mono ?_; rintro r w4 ⟨rfl, rfl⟩; rw [HOF.out]; refine still ?_)
        unfold Still
        go_wp2_with (with_reducible (show wpList _ _ _ (Oper.mk (some 32) (.load 28 (.tmp 2)) _ _ _ _ :: _) _ _); refine still ?_)
        refine wpList_exec_want (by rfl) _ _ (exec_load_mid _ _ 28 (.tmp 2) rfl X 0 rfl y.vals _ _ HR3.out Try.underlying28 rfl ed_info) ?_
        go_wp2_with (go_at_call 18; refine (class_any y _).mono ?_; rintro r w5 ⟨rfl, t5⟩; rw [HC2.out]; have T5 := Lib.hid t5; clear t5)
        go_ret
        exact ⟨rfl, T3.out.trans T5.out (fun _ _ => id)⟩
      · by_cases h2 : x.op = 2
        · have ho := h2
          have HC2 := Lib.hid (show classE y = 2 by rw [HCE.out, ho]; rfl)
          rw [ho] at c0
          clear h2
          go_enter Try.func5, Try.ntmps5
          go_wp2_with (with_reducible (show wpList _ _ _ (Oper.mk none (.store 3 (.tmp 16) (.tmp 15)) _ _ _ _ :: _) _ _); refine still ?_)
          refine list_set1 w1 X 28 3 x.vals 11 _ HX.out (by show 11 < 16; decide) (by rfl) (by rfl) (by kernel_rfl) rfl (.tmp 16) (.tmp 15) rfl rfl rfl (fun w2 h2' t2 => ?_)
          have HX2 := Lib.hid (show w2.heap[X]? = some (.cells y.vals.toArray 28 (0, 0)) by rw [← HYV.out]; exact h2')
          have T2 := Lib.hid (T1.out.trans t2 (fun q hq e => by have := HXS.out; omega))
          clear h2' t2 c0 c1 c3 c11 c12 c14
          obtain ⟨c0, c1, c3, c11, c12, c14⟩ := edC (range_of HX2.out)
          simp only [Nat.zero_add] at c0 c1 c3 c11 c12 c14
          rw [HYO.out, ho] at c0
          clear ho
          go_wp2_with fail
          refine (awake_any w2).mono ?_
          rintro r w3 ⟨rfl, t3⟩
          have T3 := Lib.hid (T2.out.trans t3 (fun _ _ => id))
          have HR3 := Lib.hid (rangeAt_turn (range_of HX2.out) t3 id)
          clear t3
          go_wp2_with (go_at_call 17; refine (of_any _ w3).mono ?_; rintro r w4 ⟨rfl, rfl⟩; rw [HOF.out]; refine still ?_)
          unfold Still
          go_wp2_with (with_reducible (show wpList _ _ _ (Oper.mk (some 32) (.load 28 (.tmp 2)) _ _ _ _ :: _) _ _); refine still ?_)
          refine wpList_exec_want (by rfl) _ _ (exec_load_mid _ _ 28 (.tmp 2) rfl X 0 rfl y.vals _ _ HR3.out Try.underlying28 rfl ed_info) ?_
          go_wp2_with (go_at_call 18; refine (class_any y _).mono ?_; rintro r w5 ⟨rfl, t5⟩; rw [HC2.out]; have T5 := Lib.hid t5; clear t5)
          go_ret
          exact ⟨rfl, T3.out.trans T5.out (fun _ _ => id)⟩
        · have p1 : (x.op == 1) = false := by simpa using h1
          have p2 : (x.op == 2) = false := by simpa using h2
          have HC2 := Lib.hid (show classE y = 4 by rw [HCE.out, if_neg h1, if_neg h2, HOF.out])
          clear h1 h2
          go_enter Try.func5, Try.ntmps5
          go_wp2_with (with_reducible (show wpList _ _ _ (Oper.mk none (.store 3 (.tmp 16) (.tmp 15)) _ _ _ _ :: _) _ _); refine still ?_)
          refine list_set1 w1 X 28 3 x.vals 11 _ HX.out (by show 11 < 16; decide) (by rfl) (by rfl) (by kernel_rfl) rfl (.tmp 16) (.tmp 15) rfl rfl rfl (fun w2 h2' t2 => ?_)
          have HX2 := Lib.hid (show w2.heap[X]? = some (.cells y.vals.toArray 28 (0, 0)) by rw [← HYV.out]; exact h2')
          have T2 := Lib.hid (T1.out.trans t2 (fun q hq e => by have := HXS.out; omega))
          clear h2' t2 c0 c1 c3 c11 c12 c14
          obtain ⟨c0, c1, c3, c11, c12, c14⟩ := edC (range_of HX2.out)
          simp only [Nat.zero_add] at c0 c1 c3 c11 c12 c14
          rw [HYO.out] at c0
          go_wp2_with fail
          refine (awake_any w2).mono ?_
          rintro r w3 ⟨rfl, t3⟩
          have T3 := Lib.hid (T2.out.trans t3 (fun _ _ => id))
          have HR3 := Lib.hid (rangeAt_turn (range_of HX2.out) t3 id)
          clear t3
          go_wp2_with (go_at_call 17; refine (of_any _ w3).mono ?_; rintro r w4 ⟨rfl, rfl⟩; rw [HOF.out]; refine still ?_)
          unfold Still
          go_wp2_with (with_reducible (show wpList _ _ _ (Oper.mk (some 32) (.load 28 (.tmp 2)) _ _ _ _ :: _) _ _); refine still ?_)
          refine wpList_exec_want (by rfl) _ _ (exec_load_mid _ _ 28 (.tmp 2) rfl X 0 rfl y.vals _ _ HR3.out Try.underlying28 rfl ed_info) ?_
          go_wp2_with (go_at_call 18; refine (class_any y _).mono ?_; rintro r w5 ⟨rfl, t5⟩; rw [HC2.out]; have T5 := Lib.hid t5; clear t5)
          go_ret
          exact ⟨rfl, T3.out.trans T5.out (fun _ _ => id)⟩
    · have n2 : (f == 2) = false := by simpa using f2
      by_cases f4 : f = 4
      · have HOF := Lib.hid (show ofE 4 = 5 from rfl)
        rw [f4] at HCE HYV ⊢
        clear f4
        by_cases h1 : x.op = 1
        · have ho := h1
          have HC2 := Lib.hid (show classE y = 6 by rw [HCE.out, ho]; rfl)
          rw [ho] at c0
          clear h1
          go_enter Try.func5, Try.ntmps5
          go_wp2_with (with_reducible (show wpList _ _ _ (Oper.mk none (.store 3 (.tmp 16) (.tmp 15)) _ _ _ _ :: _) _ _); refine still ?_)
          refine list_set1 w1 X 28 3 x.vals 11 _ HX.out (by show 11 < 16; decide) (by rfl) (by rfl) (by kernel_rfl) rfl (.tmp 16) (.tmp 15) rfl rfl rfl (fun w2 h2' t2 => ?_)
          have HX2 := Lib.hid (show w2.heap[X]? = some (.cells y.vals.toArray 28 (0, 0)) by rw [← HYV.out]; exact h2')
          have T2 := Lib.hid (T1.out.trans t2 (fun q hq e => by have := HXS.out; omega))
          clear h2' t2 c0 c1 c3 c11 c12 c14
          obtain ⟨c0, c1, c3, c11, c12, c14⟩ := edC (range_of HX2.out)
          simp only [Nat.zero_add] at c0 c1 c3 c11 c12 c14
          rw [HYO.out, ho] at c0
          clear ho
          go_wp2_with fail
          refine (awake_any w2).mono ?_
          rintro r w3 ⟨rfl, t3⟩
          have T3 := Lib.hid (T2.out.trans t3 (fun _ _ => id))
          have HR3 := Lib.hid (rangeAt_turn (range_of HX2.out) t3 id)
          clear t3
          go_wp2_with (go_at_call 17; refine (of_any _ w3).mono ?_; rintro r w4 ⟨rfl, rfl⟩; rw [HOF.out]; refine still ?_)
          unfold Still
          go_wp2_with (with_reducible (show wpList _ _ _ (Oper.mk (some 32) (.load 28 (.tmp 2)) _ _ _ _ :: _) _ _); refine still ?_)
          refine wpList_exec_want (by rfl) _ _ (exec_load_mid _ _ 28 (.tmp 2) rfl X 0 rfl y.vals _ _ HR3.out Try.underlying28 rfl ed_info) ?_
          go_wp2_with (go_at_call 18; refine (class_any y _).mono ?_; rintro r w5 ⟨rfl, t5⟩; rw [HC2.out]; have T5 := Lib.hid t5; clear t5)
          go_ret
          exact ⟨rfl, T3.out.trans T5.out (fun _ _ => id)⟩
        · by_cases h2 : x.op = 2
          · have ho := h2
            have HC2 := Lib.hid (show classE y = 2 by rw [HCE.out, ho]; rfl)
            rw [ho] at c0
            clear h2
            go_enter Try.func5, Try.ntmps5
            go_wp2_with (with_reducible (show wpList _ _ _ (Oper.mk none (.store 3 (.tmp 16) (.tmp 15)) _ _ _ _ :: _) _ _); refine still ?_)
            refine list_set1 w1 X 28 3 x.vals 11 _ HX.out (by show 11 < 16; decide) (by rfl) (by rfl) (by kernel_rfl) rfl (.tmp 16) (.tmp 15) rfl rfl rfl (fun w2 h2' t2 => ?_)
            have HX2 := Lib.hid (show w2.heap[X]? = some (.cells y.vals.toArray 28 (0, 0)) by rw [← HYV.out]; exact h2')
            have T2 := Lib.hid (T1.out.trans t2 (fun q hq e => by have := HXS.out; omega))
            clear h2' t2 c0 c1 c3 c11 c12 c14
            obtain ⟨c0, c1, c3, c11, c12, c14⟩ := edC (range_of HX2.out)
            simp only [Nat.zero_add] at c0 c1 c3 c11 c12 c14
            rw [HYO.out, ho] at c0
            clear ho
            go_wp2_with fail
            refine (awake_any w2).mono ?_
            rintro r w3 ⟨rfl, t3⟩
            have T3 := Lib.hid (T2.out.trans t3 (fun _ _ => id))
            have HR3 := Lib.hid (rangeAt_turn (range_of HX2.out) t3 id)
            clear t3
            go_wp2_with (go_at_call 17; refine (of_any _ w3).mono ?_; rintro r w4 ⟨rfl, rfl⟩; rw [HOF.out]; refine still ?_)
            unfold Still
            go_wp2_with (with_reducible (show wpList _ _ _ (Oper.mk (some 32) (.load 28 (.tmp 2)) _ _ _ _ :: _) _ _); refine still ?_)
            refine wpList_exec_want (by rfl) _ _ (exec_load_mid _ _ 28 (.tmp 2) rfl X 0 rfl y.vals _ _ HR3.out Try.underlying28 rfl ed_info) ?_
            go_wp2_with (go_at_call 18; refine (class_any y _).mono ?_; rintro r w5 ⟨rfl, t5⟩; rw [HC2.out]; have T5 := Lib.hid t5; clear t5)
            go_ret
            exact ⟨rfl, T3.out.trans T5.out (fun _ _ => id)⟩
          · have p1 : (x.op == 1) = false := by simpa using h1
            have p2 : (x.op == 2) = false := by simpa using h2
            have HC2 := Lib.hid (show classE y = 5 by rw [HCE.out, if_neg h1, if_neg h2, HOF.out])
            clear h1 h2
            go_enter Try.func5, Try.ntmps5
            go_wp2_with (with_reducible (show wpList _ _ _ (Oper.mk none (.store 3 (.tmp 16) (.tmp 15)) _ _ _ _ :: _) _ _); refine still ?_)
            refine list_set1 w1 X 28 3 x.vals 11 _ HX.out (by show 11 < 16; decide) (by rfl) (by rfl) (by kernel_rfl) rfl (.tmp 16) (.tmp 15) rfl rfl rfl (fun w2 h2' t2 => ?_)
            have HX2 := Lib.hid (show w2.heap[X]? = some (.cells y.vals.toArray 28 (0, 0)) by rw [← HYV.out]; exact h2')
            have T2 := Lib.hid (T1.out.trans t2 (fun q hq e => by have := HXS.out; omega))
            clear h2' t2 c0 c1 c3 c11 c12 c14
            obtain ⟨c0, c1, c3, c11, c12, c14⟩ := edC (range_of HX2.out)
            simp only [Nat.zero_add] at c0 c1 c3 c11 c12 c14
            rw [HYO.out] at c0
            go_wp2_with fail
            refine (awake_any w2).mono ?_
            rintro r w3 ⟨rfl, t3⟩
            have T3 := Lib.hid (T2.out.trans t3 (fun _ _ => id))
            have HR3 := Lib.hid (rangeAt_turn (range_of HX2.out) t3 id)
            clear t3
            go_wp2_with (go_at_call 17; refine (of_any _ w3).mono ?_; rintro r w4 ⟨rfl, rfl⟩; rw [HOF.out]; refine still ?_)
            unfold Still
            go_wp2_with (with_reducible (show wpList _ _ _ (Oper.mk (some 32) (.load 28 (.tmp 2)) _ _ _ _ :: _) _ _); refine still ?_)
            refine wpList_exec_want (by rfl) _ _ (exec_load_mid _ _ 28 (.tmp 2) rfl X 0 rfl y.vals _ _ HR3.out Try.underlying28 rfl ed_info) ?_
            go_wp2_with (go_at_call 18; refine (class_any y _).mono ?_; rintro r w5 ⟨rfl, t5⟩; rw [HC2.out]; have T5 := Lib.hid t5; clear t5)
            go_ret
            exact ⟨rfl, T3.out.trans T5.out (fun _ _ => id)⟩
      · have n4 : (f == 4) = false := by simpa using f4
        by_cases f5 : f = 5
        · have HOF := Lib.hid (show ofE 5 = 5 from rfl)
          rw [f5] at HCE HYV ⊢
          clear f5
          by_cases h1 : x.op = 1
          · have ho := h1
            have HC2 := Lib.hid (show classE y = 6 by rw [HCE.out, ho]; rfl)
            rw [ho] at c0
            clear h1
            go_enter Try.func5, Try.ntmps5
            go_wp2_with (with_reducible (show wpList _ _ _ (Oper.mk none (.store 3 (.tmp 16) (.tmp 15)) _ _ _ _ :: _) _ _); refine still ?_)
            refine list_set1 w1 X 28 3 x.vals 11 _ HX.out (by show 11 < 16; decide) (by rfl) (by rfl) (by kernel_rfl) rfl (.tmp 16) (.tmp 15) rfl rfl rfl (fun w2 h2' t2 => ?_)
            have HX2 := Lib.hid (show w2.heap[X]? = some (.cells y.vals.toArray 28 (0, 0)) by rw [← HYV.out]; exact h2')
            have T2 := Lib.hid (T1.out.trans t2 (fun q hq e => by have := HXS.out; omega))
            clear h2' t2 c0 c1 c3 c11 c12 c14
            obtain ⟨c0, c1, c3, c11, c12, c14⟩ := edC (range_of HX2.out)
            simp only [Nat.zero_add] at c0 c1 c3 c11 c12 c14
            rw [HYO.out, ho] at c0
            clear ho
            go_wp2_with fail
            refine (awake_any w2).mono ?_
            rintro r w3 ⟨rfl, t3⟩
            have T3 := Lib.hid (T2.out.trans t3 (fun _ _ => id))
            have HR3 := Lib.hid (rangeAt_turn (range_of HX2.out) t3 id)
            clear t3
            go_wp2_with (go_at_call 17; refine (of_any _ w3).mono ?_; rintro r w4 ⟨rfl, rfl⟩; rw [HOF.out]; refine still ?_)
            unfold Still
            go_wp2_with (with_reducible (show wpList _ _ _ (Oper.mk (some 32) (.load 28 (.tmp 2)) _ _ _ _ :: _) _ _); refine still ?_)
            refine wpList_exec_want (by rfl) _ _ (exec_load_mid _ _ 28 (.tmp 2) rfl X 0 rfl y.vals _ _ HR3.out Try.underlying28 rfl ed_info) ?_
            go_wp2_with (go_at_call 18; refine (class_any y _).mono ?_; rintro r w5 ⟨rfl, t5⟩; rw [HC2.out]; have T5 := Lib.hid t5; clear t5)
            go_ret
            exact ⟨rfl, T3.out.trans T5.out (fun _ _ => id)⟩
          · by_cases h2 : x.op = 2
            · have ho := h2
              have HC2 := Lib.hid (show classE y = 2 by rw [HCE.out, ho]; rfl)
              rw [ho] at c0
              clear h2
              go_enter Try.func5, Try.ntmps5
              go_wp2_with (with_reducible (show wpList _ _ _ (Oper.mk none (.store 3 (.tmp 16) (.tmp 15)) _ _ _ _ :: _) _ _); refine still ?_)
              refine list_set1 w1 X 28 3 x.vals 11 _ HX.out (by show 11 < 16; decide) (by rfl) (by rfl) (by kernel_rfl) rfl (.tmp 16) (.tmp 15) rfl rfl rfl (fun w2 h2' t2 => ?_)
              have HX2 := Lib.hid (show w2.heap[X]? = some (.cells y.vals.toArray 28 (0, 0)) by rw [← HYV.out]; exact h2')
              have T2 := Lib.hid (T1.out.trans t2 (fun q hq e => by have := HXS.out; omega))
              clear h2' t2 c0 c1 c3 c11 c12 c14
              obtain ⟨c0, c1, c3, c11, c12, c14⟩ := edC (range_of HX2.out)
              simp only [Nat.zero_add] at c0 c1 c3 c11 c12 c14
              rw [HYO.out, ho] at c0
              clear ho
              go_wp2_with fail
              refine (awake_any w2).mono ?_
              rintro r w3 ⟨rfl, t3⟩
              have T3 := Lib.hid (T2.out.trans t3 (fun _ _ => id))
              have HR3 := Lib.hid (rangeAt_turn (range_of HX2.out) t3 id)
              clear t3
              go_wp2_with (go_at_call 17; refine (of_any _ w3).mono ?_; rintro r w4 ⟨rfl, rfl⟩; rw [HOF.out]; refine still ?_)
              unfold Still
              go_wp2_with (with_reducible (show wpList _ _ _ (Oper.mk (some 32) (.load 28 (.tmp 2)) _ _ _ _ :: _) _ _); refine still ?_)
              refine wpList_exec_want (by rfl) _ _ (exec_load_mid _ _ 28 (.tmp 2) rfl X 0 rfl y.vals _ _ HR3.out Try.underlying28 rfl ed_info) ?_
              go_wp2_with (go_at_call 18; refine (class_any y _).mono ?_; rintro r w5 ⟨rfl, t5⟩; rw [HC2.out]; have T5 := Lib.hid t5; clear t5)
              go_ret
              exact ⟨rfl, T3.out.trans T5.out (fun _ _ => id)⟩
            · have p1 : (x.op == 1) = false := by simpa using h1
              have p2 : (x.op == 2) = false := by simpa using h2
              have HC2 := Lib.hid (show classE y = 5 by rw [HCE.out, if_neg h1, if_neg h2, HOF.out])
              clear h1 h2
              go_enter Try.func5, Try.ntmps5
              go_wp2_with (with_reducible (show wpList _ _ _ (Oper.mk none (.store 3 (.tmp 16) (.tmp 15)) _ _ _ _ :: _) _ _); refine still ?_)
              refine list_set1 w1 X 28 3 x.vals 11 _ HX.out (by show 11 < 16; decide) (by rfl) (by rfl) (by kernel_rfl) rfl (.tmp 16) (.tmp 15) rfl rfl rfl (fun w2 h2' t2 => ?_)
              have HX2 := Lib.hid (show w2.heap[X]? = some (.cells y.vals.toArray 28 (0, 0)) by rw [← HYV.out]; exact h2')
              have T2 := Lib.hid (T1.out.trans t2 (fun q hq e => by have := HXS.out; omega))
              clear h2' t2 c0 c1 c3 c11 c12 c14
              obtain ⟨c0, c1, c3, c11, c12, c14⟩ := edC (range_of HX2.out)
              simp only [Nat.zero_add] at c0 c1 c3 c11 c12 c14
              rw [HYO.out] at c0
              go_wp2_with fail
              refine (awake_any w2).mono ?_
              rintro r w3 ⟨rfl, t3⟩
              have T3 := Lib.hid (T2.out.trans t3 (fun _ _ => id))
              have HR3 := Lib.hid (rangeAt_turn (range_of HX2.out) t3 id)
              clear t3
              go_wp2_with (go_at_call 17; refine (of_any _ w3).mono ?_; rintro r w4 ⟨rfl, rfl⟩; rw [HOF.out]; refine still ?_)
              unfold Still
              go_wp2_with (with_reducible (show wpList _ _ _ (Oper.mk (some 32) (.load 28 (.tmp 2)) _ _ _ _ :: _) _ _); refine still ?_)
              refine wpList_exec_want (by rfl) _ _ (exec_load_mid _ _ 28 (.tmp 2) rfl X 0 rfl y.vals _ _ HR3.out Try.underlying28 rfl ed_info) ?_
              go_wp2_with (go_at_call 18; refine (class_any y _).mono ?_; rintro r w5 ⟨rfl, t5⟩; rw [HC2.out]; have T5 := Lib.hid t5; clear t5)
              go_ret
              exact ⟨rfl, T3.out.trans T5.out (fun _ _ => id)⟩
        · have n5 : (f == 5) = false := by simpa using f5
          have HOF := Lib.hid (show ofE f = 1 by unfold ofE; rw [if_neg f1, if_neg f2, if_neg (by omega)])
          clear f1 f2 f4 f5
          by_cases h1 : x.op = 1
          · have ho := h1
            have HC2 := Lib.hid (show classE y = 6 by rw [HCE.out, ho]; rfl)
            rw [ho] at c0
            clear h1
            go_enter Try.func5, Try.ntmps5
            go_wp2_with (with_reducible (show wpList _ _ _ (Oper.mk none (.store 3 (.tmp 16) (.tmp 15)) _ _ _ _ :: _) _ _); refine still ?_)
            refine list_set1 w1 X 28 3 x.vals 11 _ HX.out (by show 11 < 16; decide) (by rfl) (by rfl) (by kernel_rfl) rfl (.tmp 16) (.tmp 15) rfl rfl rfl (fun w2 h2' t2 => ?_)
            have HX2 := Lib.hid (show w2.heap[X]? = some (.cells y.vals.toArray 28 (0, 0)) by rw [← HYV.out]; exact h2')
            have T2 := Lib.hid (T1.out.trans t2 (fun q hq e => by have := HXS.out; omega))
            clear h2' t2 c0 c1 c3 c11 c12 c14
            obtain ⟨c0, c1, c3, c11, c12, c14⟩ := edC (range_of HX2.out)
            simp only [Nat.zero_add] at c0 c1 c3 c11 c12 c14
            rw [HYO.out, ho] at c0
            clear ho
            go_wp2_with fail
            refine (awake_any w2).mono ?_
            rintro r w3 ⟨rfl, t3⟩
            have T3 := Lib.hid (T2.out.trans t3 (fun _ _ => id))
            have HR3 := Lib.hid (rangeAt_turn (range_of HX2.out) t3 id)
            clear t3
            go_wp2_with (go_at_call 17; refine (of_any _ w3).mono ?_; rintro r w4 ⟨rfl, rfl⟩; rw [HOF.out]; refine still ?_)
            unfold Still
            go_wp2_with (with_reducible (show wpList _ _ _ (Oper.mk (some 32) (.load 28 (.tmp 2)) _ _ _ _ :: _) _ _); refine still ?_)
            refine wpList_exec_want (by rfl) _ _ (exec_load_mid _ _ 28 (.tmp 2) rfl X 0 rfl y.vals _ _ HR3.out Try.underlying28 rfl ed_info) ?_
            go_wp2_with (go_at_call 18; refine (class_any y _).mono ?_; rintro r w5 ⟨rfl, t5⟩; rw [HC2.out]; have T5 := Lib.hid t5; clear t5)
            go_ret
            exact ⟨rfl, T3.out.trans T5.out (fun _ _ => id)⟩
          · by_cases h2 : x.op = 2
            · have ho := h2
              have HC2 := Lib.hid (show classE y = 2 by rw [HCE.out, ho]; rfl)
              rw [ho] at c0
              clear h2
              go_enter Try.func5, Try.ntmps5
              go_wp2_with (with_reducible (show wpList _ _ _ (Oper.mk none (.store 3 (.tmp 16) (.tmp 15)) _ _ _ _ :: _) _ _); refine still ?_)
              refine list_set1 w1 X 28 3 x.vals 11 _ HX.out (by show 11 < 16; decide) (by rfl) (by rfl) (by kernel_rfl) rfl (.tmp 16) (.tmp 15) rfl rfl rfl (fun w2 h2' t2 => ?_)
              have HX2 := Lib.hid (show w2.heap[X]? = some (.cells y.vals.toArray 28 (0, 0)) by rw [← HYV.out]; exact h2')
              have T2 := Lib.hid (T1.out.trans t2 (fun q hq e => by have := HXS.out; omega))
              clear h2' t2 c0 c1 c3 c11 c12 c14
              obtain ⟨c0, c1, c3, c11, c12, c14⟩ := edC (range_of HX2.out)
              simp only [Nat.zero_add] at c0 c1 c3 c11 c12 c14
              rw [HYO.out, ho] at c0
              clear ho
              go_wp2_with fail
              refine (awake_any w2).mono ?_
              rintro r w3 ⟨rfl, t3⟩
              have T3 := Lib.hid (T2.out.trans t3 (fun _ _ => id))
              have HR3 := Lib.hid (rangeAt_turn (range_of HX2.out) t3 id)
              clear t3
              go_wp2_with (go_at_call 17; refine (of_any _ w3).mono ?_; rintro r w4 ⟨rfl, rfl⟩; rw [HOF.out]; refine still ?_)
              unfold Still
              go_wp2_with (with_reducible (show wpList _ _ _ (Oper.mk (some 32) (.load 28 (.tmp 2)) _ _ _ _ :: _) _ _); refine still ?_)
              refine wpList_exec_want (by rfl) _ _ (exec_load_mid _ _ 28 (.tmp 2) rfl X 0 rfl y.vals _ _ HR3.out Try.underlying28 rfl ed_info) ?_
              go_wp2_with (go_at_call 18; refine (class_any y _).mono ?_; rintro r w5 ⟨rfl, t5⟩; rw [HC2.out]; have T5 := Lib.hid t5; clear t5)
              go_ret
              exact ⟨rfl, T3.out.trans T5.out (fun _ _ => id)⟩
            · have p1 : (x.op == 1) = false := by simpa using h1
              have p2 : (x.op == 2) = false := by simpa using h2
              have HC2 := Lib.hid (show classE y = 1 by rw [HCE.out, if_neg h1, if_neg h2, HOF.out])
              clear h1 h2
              go_enter Try.func5, Try.ntmps5
              go_wp2_with (with_reducible (show wpList _ _ _ (Oper.mk none (.store 3 (.tmp 16) (.tmp 15)) _ _ _ _ :: _) _ _); refine still ?_)
              refine list_set1 w1 X 28 3 x.vals 11 _ HX.out (by show 11 < 16; decide) (by rfl) (by rfl) (by kernel_rfl) rfl (.tmp 16) (.tmp 15) rfl rfl rfl (fun w2 h2' t2 => ?_)
              have HX2 := Lib.hid (show w2.heap[X]? = some (.cells y.vals.toArray 28 (0, 0)) by rw [← HYV.out]; exact h2')
              have T2 := Lib.hid (T1.out.trans t2 (fun q hq e => by have := HXS.out; omega))
              clear h2' t2 c0 c1 c3 c11 c12 c14
              obtain ⟨c0, c1, c3, c11, c12, c14⟩ := edC (range_of HX2.out)
              simp only [Nat.zero_add] at c0 c1 c3 c11 c12 c14
              rw [HYO.out] at c0
              go_wp2_with fail
              refine (awake_any w2).mono ?_
              rintro r w3 ⟨rfl, t3⟩
              have T3 := Lib.hid (T2.out.trans t3 (fun _ _ => id))
              have HR3 := Lib.hid (rangeAt_turn (range_of HX2.out) t3 id)
              clear t3
              go_wp2_with (go_at_call 17; refine (of_any _ w3).mono ?_; rintro r w4 ⟨rfl, rfl⟩; rw [HOF.out]; refine still ?_)
              unfold Still
              go_wp2_with (with_reducible (show wpList _ _ _ (Oper.mk (some 32) (.load 28 (.tmp 2)) _ _ _ _ :: _) _ _); refine still ?_)
              refine wpList_exec_want (by rfl) _ _ (exec_load_mid _ _ 28 (.tmp 2) rfl X 0 rfl y.vals _ _ HR3.out Try.underlying28 rfl ed_info) ?_
              go_wp2_with (go_at_call 18; refine (class_any y _).mono ?_; rintro r w5 ⟨rfl, t5⟩; rw [HC2.out]; have T5 := Lib.hid t5; clear t5)
              go_ret
              exact ⟨rfl, T3.out.trans T5.out (fun _ _ => id)⟩

end Go.Proofs.Ytbokdgcdkmnldaa
