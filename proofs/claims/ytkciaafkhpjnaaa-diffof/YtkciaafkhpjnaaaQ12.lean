/- Own texts, packed: Brb. No statement is proved here. -/
import Derived.Test.YtkciaafkhpjnaaaQ10
namespace Go.Proofs.Ytkciaafkhpjnaaa
set_option maxRecDepth 100000
open Go.RowKit
set_option linter.unusedVariables false
set_option linter.unusedSimpArgs false


def b4 (l : List El) (x : El) : Bool := if x.kind = 2 then x.par == 0 || kindE l x.par != 1 else x.par != 0 && kindE l x.par != 1 && kindE l x.par != 2
def b6 (l : List El) (x : El) : Bool := x.kind == 5 && (kindE l x.frm != 1 || (kindE l x.to != 1 && kindE l x.to != 3 && kindE l x.to != 4))
set_option maxHeartbeats 4000000 in
theorem breaks_4 (w : World) (v : Value) (l : List El) (x : El) (hv : RowV w v l) (hb : l.length ≤ 1000) : Calls Try.prog 41 #[v, .agg x.vals.toArray, .int .i64 4] w fun r w' => r = .returned (.bool (b4 l x)) ∧ Turn (fun _ => False) w w' := by
  obtain ⟨la, lc, rfl⟩ := hv.form
  obtain ⟨n, hn⟩ : ∃ n, l.length = n := ⟨_, rfl⟩
  rw [hn] at hv hb
  simp only [hn]
  have HN := Lib.hid hn
  clear hn
  have hbx := box_alloc w 38 x.vals
  obtain ⟨X, hX⟩ : ∃ X, w.heap.size = X := ⟨_, rfl⟩
  obtain ⟨w1, hw1⟩ : ∃ w1, w.alloc (.cells x.vals.toArray 38) = w1 := ⟨_, rfl⟩
  rw [hw1] at hbx
  have hr := hbx.range
  rw [hX] at hr
  have T1 := Lib.hid hbx.turn
  have HR := Lib.hid hr
  have HV1 := Lib.hid (hv.turn hbx.turn (fun _ _ => id))
  clear hbx hr hv
  obtain ⟨c0, c1, c2, c3, c4, c5, c6, c7, c8, c9⟩ := cellsE HR.out
  simp only [Nat.zero_add] at c0 c1 c2 c3 c4 c5 c6 c7 c8 c9
  obtain ⟨Kp, hKp⟩ : ∃ Kp, kindE l x.par = Kp := ⟨_, rfl⟩
  have HK := Lib.hid hKp
  clear hKp c0 c3 c4 c5 c6 c7 c8 c9
  go_enter Try.func41, Try.ntmps41
  go_wp2_with fail
  refine (kind_any w1 _ l x.par HV1.out (by rw [HN.out]; exact hb)).mono ?_
  rintro r w' ⟨rfl, rfl⟩
  rw [HK.out]
  go_wp2_with fail
  all_goals (go_ret; refine ⟨?_, T1.out⟩)
  all_goals (refine congrArg (fun b => Ending.returned (Value.bool b)) ?_; unfold b4; rw [HK.out])
  all_goals (clear HV1 T1 HR; simp_all)
set_option maxHeartbeats 4000000 in
theorem breaks_6 (w : World) (v : Value) (l : List El) (x : El) (hv : RowV w v l) (hb : l.length ≤ 1000) : Calls Try.prog 41 #[v, .agg x.vals.toArray, .int .i64 6] w fun r w' => r = .returned (.bool (b6 l x)) ∧ Turn (fun _ => False) w w' := by
  obtain ⟨la, lc, rfl⟩ := hv.form
  obtain ⟨n, hn⟩ : ∃ n, l.length = n := ⟨_, rfl⟩
  rw [hn] at hv hb
  simp only [hn]
  have HN := Lib.hid hn
  clear hn
  have hbx := box_alloc w 38 x.vals
  obtain ⟨X, hX⟩ : ∃ X, w.heap.size = X := ⟨_, rfl⟩
  obtain ⟨w1, hw1⟩ : ∃ w1, w.alloc (.cells x.vals.toArray 38) = w1 := ⟨_, rfl⟩
  rw [hw1] at hbx
  have hr := hbx.range
  rw [hX] at hr
  have T1 := Lib.hid hbx.turn
  have HR := Lib.hid hr
  have HV1 := Lib.hid (hv.turn hbx.turn (fun _ _ => id))
  clear hbx hr hv
  obtain ⟨c0, c1, c2, c3, c4, c5, c6, c7, c8, c9⟩ := cellsE HR.out
  simp only [Nat.zero_add] at c0 c1 c2 c3 c4 c5 c6 c7 c8 c9
  obtain ⟨Kt, hKt⟩ : ∃ Kt, kindE l x.to = Kt := ⟨_, rfl⟩
  have HK := Lib.hid hKt
  obtain ⟨Kf, hKf⟩ : ∃ Kf, kindE l x.frm = Kf := ⟨_, rfl⟩
  have HF := Lib.hid hKf
  clear hKt hKf c0 c2 c3 c4 c7 c8 c9
  go_enter Try.func41, Try.ntmps41
  go_wp2_with fail
  refine (kind_any w1 _ l x.to HV1.out (by rw [HN.out]; exact hb)).mono ?_
  rintro r w' ⟨rfl, rfl⟩
  rw [HK.out]
  go_wp2_with (go_at_call 58; refine (kind_any w1 _ l x.frm HV1.out (by rw [HN.out]; exact hb)).mono ?_; rintro r w' ⟨rfl, rfl⟩; rw [HF.out])
  all_goals (go_ret; refine ⟨?_, T1.out⟩)
  all_goals (refine congrArg (fun b => Ending.returned (Value.bool b)) ?_; unfold b6; rw [HK.out, HF.out])
  all_goals (clear HV1 T1 HR; simp_all)
end Go.Proofs.Ytkciaafkhpjnaaa
