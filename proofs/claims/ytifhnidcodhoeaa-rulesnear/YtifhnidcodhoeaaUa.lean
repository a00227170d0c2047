/- Own contracts: rules: kinds, names. No statement is proved here. -/
import Derived.Test.YtifhnidcodhoeaaChk
import Derived.Test.YtifhnidcodhoeaaMkc
import Derived.Test.YtifhnidcodhoeaaOa
import Derived.Test.YtifhnidcodhoeaaCh
import Derived.Test.YtifhnidcodhoeaaOv
namespace Go.Proofs.Ytifhnidcodhoeaa
set_option maxRecDepth 100000
open Go.RowKit
set_option linter.unusedVariables false
set_option linter.unusedSimpArgs false

theorem leads_any (x : El) (w : World) : Calls Try.prog 35 #[.agg x.vals.toArray] w fun r w' => r = .returned (.bool (endsE x)) ∧ Turn (fun _ => False) w w' := by
  have hbx := box_alloc w 35 x.vals
  obtain ⟨X, hX⟩ : ∃ X, w.heap.size = X := ⟨_, rfl⟩
  obtain ⟨w1, hw1⟩ : ∃ w1, w.alloc (.cells x.vals.toArray 35) = w1 := ⟨_, rfl⟩
  rw [hw1] at hbx
  have hr := hbx.range
  rw [hX] at hr
  obtain ⟨c0, c1, c2, c3, c4, c5, c6, c7, c8, c9⟩ := cellsE hr
  simp only [Nat.zero_add] at c0 c1 c2 c3 c4 c5 c6 c7 c8 c9
  have T1 := Lib.hid hbx.turn
  have HR := Lib.hid hr
  clear hbx hr
  go_enter Try.func35, Try.ntmps35
  go_wp2_with fail
  all_goals (go_ret; refine ⟨?_, T1.out⟩)
  all_goals (refine congrArg (fun b => Ending.returned (Value.bool b)) ?_; clear T1 HR; simp_all [endsE])
theorem rnamed_any (x : El) (w : World) : Calls Try.prog 36 #[.agg x.vals.toArray] w fun r w' => r = .returned (.bool (namedE x)) ∧ Turn (fun _ => False) w w' := by
  have hbx := box_alloc w 35 x.vals
  obtain ⟨X, hX⟩ : ∃ X, w.heap.size = X := ⟨_, rfl⟩
  obtain ⟨w1, hw1⟩ : ∃ w1, w.alloc (.cells x.vals.toArray 35) = w1 := ⟨_, rfl⟩
  rw [hw1] at hbx
  have hr := hbx.range
  rw [hX] at hr
  obtain ⟨c0, c1, c2, c3, c4, c5, c6, c7, c8, c9⟩ := cellsE hr
  simp only [Nat.zero_add] at c0 c1 c2 c3 c4 c5 c6 c7 c8 c9
  have T1 := Lib.hid hbx.turn
  have HR := Lib.hid hr
  clear hbx hr
  go_enter Try.func36, Try.ntmps36
  go_wp2_with fail
  all_goals (go_ret; refine ⟨?_, T1.out⟩)
  all_goals (refine congrArg (fun b => Ending.returned (Value.bool b)) ?_; clear T1 HR; simp_all [namedE])
theorem b2_12 {x : El} (h : x.kind = 1 ∨ x.kind = 2) : b2 x = endsE x := by
  unfold b2; rcases h with h | h <;> rw [h] <;> simp
theorem b2_34 {x : El} (h : x.kind = 3 ∨ x.kind = 4) : b2 x = (endsE x || !x.name.toList.isEmpty) := by
  unfold b2; rcases h with h | h <;> rw [h] <;> simp
theorem b2_5 {x : El} (h : x.kind = 5) : b2 x = (x.par != 0 || !x.name.toList.isEmpty) := by
  unfold b2; rw [h]; simp
theorem b2_no {x : El} (h : ¬ (1 ≤ x.kind ∧ x.kind ≤ 5)) : b2 x = true := by
  unfold b2
  by_cases h1 : x.kind < 1
  · rw [decide_eq_true h1]; simp
  · rw [decide_eq_true (show 5 < x.kind by omega)]; simp
set_option maxHeartbeats 4000000 in
theorem unkind_any (x : El) (w : World) : Calls Try.prog 25 #[.agg x.vals.toArray] w fun r w' => r = .returned (.bool (b2 x)) ∧ Turn (fun _ => False) w w' := by
  have hbx := box_alloc w 35 x.vals
  obtain ⟨X, hX⟩ : ∃ X, w.heap.size = X := ⟨_, rfl⟩
  obtain ⟨w1, hw1⟩ : ∃ w1, w.alloc (.cells x.vals.toArray 35) = w1 := ⟨_, rfl⟩
  rw [hw1] at hbx
  have hr := hbx.range
  rw [hX] at hr
  obtain ⟨c0, c1, c2, c3, c4, c5, c6, c7, c8, c9⟩ := cellsE hr
  simp only [Nat.zero_add] at c0 c1 c2 c3 c4 c5 c6 c7 c8 c9
  have T1 := Lib.hid hbx.turn
  have HR := Lib.hid hr
  clear hbx hr
  go_enter Try.func25, Try.ntmps25
  by_cases k1 : x.kind = 1
  · have q1 : (x.kind == 1) = true := by simpa using k1
    have HK := Lib.hid k1
    clear k1
    go_wp2_with (with_reducible (show wpList _ _ _ (Oper.mk (some 8) (.load 35 (.tmp 1)) _ _ _ _ :: _) _ _); refine wpList_load_mid rfl 35 (.tmp 1) rfl X 0 rfl x.vals _ HR.out Try.underlying35 rfl el_info ?_)
    refine (leads_any x w1).mono ?_
    rintro r w9 ⟨rfl, t9⟩
    have T9 := Lib.hid (T1.out.trans t9 (fun _ _ => id))
    obtain ⟨e0, e1, e2, e3, e4, e5, e6, e7, e8, e9⟩ := cellsE (rangeAt_turn HR.out t9 id)
    simp only [Nat.zero_add] at e0 e1 e2 e3 e4 e5 e6 e7 e8 e9
    clear t9
    go_wp2_with fail
    go_ret
    exact ⟨by rw [b2_12 (.inl HK.out)]; rfl, T9.out⟩
  have q1 : (x.kind == 1) = false := by simpa using k1
  by_cases k2 : x.kind = 2
  · have q2 : (x.kind == 2) = true := by simpa using k2
    have HK := Lib.hid k2
    clear k2
    go_wp2_with (with_reducible (show wpList _ _ _ (Oper.mk (some 8) (.load 35 (.tmp 1)) _ _ _ _ :: _) _ _); refine wpList_load_mid rfl 35 (.tmp 1) rfl X 0 rfl x.vals _ HR.out Try.underlying35 rfl el_info ?_)
    refine (leads_any x w1).mono ?_
    rintro r w9 ⟨rfl, t9⟩
    have T9 := Lib.hid (T1.out.trans t9 (fun _ _ => id))
    obtain ⟨e0, e1, e2, e3, e4, e5, e6, e7, e8, e9⟩ := cellsE (rangeAt_turn HR.out t9 id)
    simp only [Nat.zero_add] at e0 e1 e2 e3 e4 e5 e6 e7 e8 e9
    clear t9
    go_wp2_with fail
    go_ret
    exact ⟨by rw [b2_12 (.inr HK.out)]; rfl, T9.out⟩
  have q2 : (x.kind == 2) = false := by simpa using k2
  by_cases k3 : x.kind = 3
  · have q3 : (x.kind == 3) = true := by simpa using k3
    have HK := Lib.hid k3
    clear k3
    go_wp2_with (with_reducible (show wpList _ _ _ (Oper.mk (some 13) (.load 35 (.tmp 1)) _ _ _ _ :: _) _ _); refine wpList_load_mid rfl 35 (.tmp 1) rfl X 0 rfl x.vals _ HR.out Try.underlying35 rfl el_info ?_)
    refine (leads_any x w1).mono ?_
    rintro r w9 ⟨rfl, t9⟩
    have T9 := Lib.hid (T1.out.trans t9 (fun _ _ => id))
    obtain ⟨e0, e1, e2, e3, e4, e5, e6, e7, e8, e9⟩ := cellsE (rangeAt_turn HR.out t9 id)
    simp only [Nat.zero_add] at e0 e1 e2 e3 e4 e5 e6 e7 e8 e9
    clear t9
    have HB := Lib.hid (b2_34 (.inl HK.out))
    obtain ⟨E, hE⟩ : ∃ E, endsE x = E := ⟨_, rfl⟩
    rw [hE]
    have HE := Lib.hid hE
    clear hE
    cases E
    all_goals (go_wp2_with fail)
    all_goals (go_ret; refine ⟨?_, T9.out⟩)
    all_goals (refine congrArg (fun b => Ending.returned (Value.bool b)) ?_; rw [HB.out, HE.out]; rfl)
  have q3 : (x.kind == 3) = false := by simpa using k3
  by_cases k4 : x.kind = 4
  · have q4 : (x.kind == 4) = true := by simpa using k4
    have HK := Lib.hid k4
    clear k4
    go_wp2_with (with_reducible (show wpList _ _ _ (Oper.mk (some 13) (.load 35 (.tmp 1)) _ _ _ _ :: _) _ _); refine wpList_load_mid rfl 35 (.tmp 1) rfl X 0 rfl x.vals _ HR.out Try.underlying35 rfl el_info ?_)
    refine (leads_any x w1).mono ?_
    rintro r w9 ⟨rfl, t9⟩
    have T9 := Lib.hid (T1.out.trans t9 (fun _ _ => id))
    obtain ⟨e0, e1, e2, e3, e4, e5, e6, e7, e8, e9⟩ := cellsE (rangeAt_turn HR.out t9 id)
    simp only [Nat.zero_add] at e0 e1 e2 e3 e4 e5 e6 e7 e8 e9
    clear t9
    have HB := Lib.hid (b2_34 (.inr HK.out))
    obtain ⟨E, hE⟩ : ∃ E, endsE x = E := ⟨_, rfl⟩
    rw [hE]
    have HE := Lib.hid hE
    clear hE
    cases E
    all_goals (go_wp2_with fail)
    all_goals (go_ret; refine ⟨?_, T9.out⟩)
    all_goals (refine congrArg (fun b => Ending.returned (Value.bool b)) ?_; rw [HB.out, HE.out]; rfl)
  have q4 : (x.kind == 4) = false := by simpa using k4
  by_cases k5 : x.kind = 5
  · have q5 : (x.kind == 5) = true := by simpa using k5
    have HK := Lib.hid k5
    clear k5
    have HB := Lib.hid (b2_5 HK.out)
    go_wp2_with fail
    all_goals (go_ret; refine ⟨?_, T1.out⟩)
    all_goals (refine congrArg (fun b => Ending.returned (Value.bool b)) ?_; rw [HB.out]; clear T1 HR HB HK; simp_all)
  have q5 : (x.kind == 5) = false := by simpa using k5
  have HB := Lib.hid (b2_no (x := x) (by omega))
  clear k1 k2 k3 k4 k5
  go_wp2_with fail
  go_ret
  exact ⟨by rw [HB.out]; rfl, T1.out⟩

end Go.Proofs.Ytifhnidcodhoeaa
