/- Own contracts: faults that stay, and a nil eye. No statement is proved here. -/
import Derived.Test.YtimajdbgeibalaaEyeNum
namespace Go.Proofs.Ytimajdbgeibalaa
open Go.RowKit
set_option linter.unusedVariables false

set_option maxHeartbeats 800000 in
theorem fail_again (X : Nat) (v : Value) (f e : Int) (w : World) (h : EyeIs w X v f) (hf : f ≠ 0) (he : e ≠ 0) :
    Calls Try.prog 21 #[.pointer (some ⟨X, 0, none⟩), .int .i64 e] w fun r w' => r = .returned (.tuple #[]) ∧ w = w' := by
  have hb : (e != 0) = true := by simp [he]
  have hc : (f == 0) = false := by simp [hf]
  go_enter Try.func21, Try.ntmps21
  go_wp2_with fail
  refine (fault_any X v f _ h).mono ?_
  rintro r w' ⟨rfl, rfl⟩
  go_wp2_with fail
  go_end0
  exact ⟨rfl, rfl⟩

theorem fail_zero (X : Nat) (w : World) :
    Calls Try.prog 21 #[.pointer (some ⟨X, 0, none⟩), .int .i64 0] w fun r w' => r = .returned (.tuple #[]) ∧ w = w' := by
  go_enter Try.func21, Try.ntmps21
  go_wp2_with fail
  go_end0
  exact ⟨rfl, rfl⟩

theorem fail_nil (w : World) :
    Calls Try.prog 21 #[.pointer none, .int .i64 8] w fun r w' => r = .returned (.tuple #[]) ∧ w = w' := by
  go_enter Try.func21, Try.ntmps21
  go_wp2_with fail
  refine (fault_nil _).mono ?_
  rintro r w' ⟨rfl, rfl⟩
  go_wp2_with fail
  go_end0
  exact ⟨rfl, rfl⟩

theorem num_nil (most : Int) (w : World) :
    Calls Try.prog 13 #[.pointer none, .int .i64 most] w fun r w' => r = .returned (.int .i64 0) ∧ w = w' := by
  go_enter Try.func13, Try.ntmps13
  go_wp2_with fail
  refine (fault_nil _).mono ?_
  rintro r w' ⟨rfl, rfl⟩
  go_wp2_with fail
  go_ret
  exact ⟨rfl, rfl⟩

theorem take_nil0 (w : World) :
    Calls Try.prog 25 #[.pointer none, .int .i64 0] w fun r w' => r = .returned (.slice none 0 0) ∧ w = w' := by
  go_enter Try.func25, Try.ntmps25
  go_wp2_with fail
  go_ret
  exact ⟨rfl, rfl⟩

theorem take_nil5 (w : World) :
    Calls Try.prog 25 #[.pointer none, .int .i64 5] w fun r w' => r = .returned (.slice none 0 0) ∧ w = w' := by
  go_enter Try.func25, Try.ntmps25
  go_wp2_with fail
  refine (fault_nil _).mono ?_
  rintro r w' ⟨rfl, rfl⟩
  go_wp2_with fail
  go_ret
  exact ⟨rfl, rfl⟩

theorem text_nil (w : World) :
    Calls Try.prog 19 #[.pointer none, .int .i64 5] w fun r w' => r = .returned (.string (strOfNums [])) ∧ w = w' := by
  have hcv : ∀ w, (convert 25 9 (.slice none 0 0)).run Try.prog w = .ok (.string (strOfNums [])) w := fun w => Reads.conv (.inl ⟨rfl, rfl⟩)
  go_enter Try.func19, Try.ntmps19
  go_wp2_with fail
  refine (num_nil 5 _).mono ?_
  rintro r w' ⟨rfl, rfl⟩
  go_wp2_with fail
  refine (take_nil0 _).mono ?_
  rintro r w' ⟨rfl, rfl⟩
  go_wp2_with fail
  go_ret
  exact ⟨rfl, rfl⟩

theorem raw_nil (w : World) :
    Calls Try.prog 20 #[.pointer none, .int .i64 5] w fun r w' => r = .returned (.slice none 0 0) ∧ w = w' := by
  have hnil : ∀ w, (binOp .eql 25 (.slice none 0 0) (.slice none 0 0)).run Try.prog w = .ok (.bool true) w := fun w => Lib.run_eql_slice_nil (P := Try.prog) w 25 5 none 0 0 0 0 Try.underlying25
  go_enter Try.func20, Try.ntmps20
  go_wp2_with fail
  refine (take_nil5 _).mono ?_
  rintro r w' ⟨rfl, rfl⟩
  go_wp2_with go_in
  go_ret
  exact ⟨rfl, rfl⟩

/-- The last line of DigitCuts, of an eye whose fault is the one that was handed in. -/
theorem numB_digit (n : Nat) : ∀ i, i + 1 < (numB n).length → 0 ≤ (numB n).getD i 0 ∧ (numB n).getD i 0 < 128 := by
  induction n using Nat.strongRecOn with
  | _ n ih =>
    intro i hi
    by_cases h : n < 128
    · rw [numB_small h] at hi; simp at hi
    · rw [numB_big h] at hi ⊢
      cases i with
      | zero => simp; omega
      | succ i =>
        have := ih (n / 128) (by omega) i (by simp at hi; omega)
        simpa using this
end Go.Proofs.Ytimajdbgeibalaa
