/- Own texts, packed: Bra. No statement is proved here. -/
import Derived.Test.YtkciaafkhpjnaaaQ10
namespace Go.Proofs.Ytkciaafkhpjnaaa
set_option maxRecDepth 100000
open Go.RowKit
set_option linter.unusedVariables false
set_option linter.unusedSimpArgs false

def endsE (x : El) : Bool := x.frm != 0 || x.to != 0 || !x.ev.toList.isEmpty || !x.gd.toList.isEmpty || !x.ac.toList.isEmpty
def b2 (x : El) : Bool := decide (x.kind < 1) || decide (5 < x.kind) || (x.kind != 5 && endsE x) || (x.kind == 5 && (x.par != 0 || !x.name.toList.isEmpty)) || (decide (2 < x.kind) && !x.name.toList.isEmpty)
set_option maxHeartbeats 4000000 in
theorem breaks_2 (w : World) (v : Value) (x : El) : Calls Try.prog 41 #[v, .agg x.vals.toArray, .int .i64 2] w fun r w' => r = .returned (.bool (b2 x)) ∧ Turn (fun _ => False) w w' := by
  have hbx := box_alloc w 38 x.vals
  obtain ⟨X, hX⟩ : ∃ X, w.heap.size = X := ⟨_, rfl⟩
  obtain ⟨w1, hw1⟩ : ∃ w1, w.alloc (.cells x.vals.toArray 38) = w1 := ⟨_, rfl⟩
  rw [hw1] at hbx
  have hr := hbx.range
  rw [hX] at hr
  obtain ⟨c0, c1, c2, c3, c4, c5, c6, c7, c8, c9⟩ := cellsE hr
  simp only [Nat.zero_add] at c0 c1 c2 c3 c4 c5 c6 c7 c8 c9
  have T1 := Lib.hid hbx.turn
  clear hbx hr
  obtain ⟨E, hE⟩ : ∃ E, endsE x = E := ⟨_, rfl⟩
  have HE := Lib.hid hE
  clear hE
  go_enter Try.func41, Try.ntmps41
  go_upto_region 3 with (fail)
  go_cut [7] from 18 (fun v w' => v = .bool E ∧ w' = w1)
  case first =>
    go_wp2_with fail
    all_goals (go_meet; case rel => exact ⟨congrArg Value.bool (by rw [← HE.out]; simp_all [endsE]), rfl⟩)
  case rest =>
    obtain ⟨rfl, rfl⟩ := hcut
    go_wp2_with fail
    all_goals (go_ret; refine ⟨?_, T1.out⟩)
    all_goals (refine congrArg (fun b => Ending.returned (Value.bool b)) ?_; unfold b2; rw [HE.out])
    all_goals (first | (clear HE T1; simp_all; done) | (have k1 : decide (x.kind < 1) = false := decide_eq_false (by omega); have k2 : decide (5 < x.kind) = false := decide_eq_false (by omega); have k3 : (x.kind == 5) = false := (by first | omega | (simp; done) | (simp; omega)); first | (simp [k1, k2, k3, *]; done) | (simp [k1, k2, k3, *]; intros; omega)))
end Go.Proofs.Ytkciaafkhpjnaaa
